import Derived.Test.YthggkidiidnaoaaGreatWAA
import Derived.Deep.RegionHeld3
import Derived.Laws.AppendOwn
import Derived.Laws.AppendOwnNone
import Derived.WalkKit
import Derived.Lib.Hide
import Derived.WalkSpells
import Derived.WalkLawsBesides
import Derived.RegionTactic
import Derived.StillTailTactics
import Derived.Deep.DeepCutAuto
import Derived.Deep.RegionLaw
namespace Go.Proofs.YthggkidiidnaoaaGreat
set_option linter.unusedVariables false
set_option linter.unusedSimpArgs false
section
open Go.RowKit
end
section
def val : List Int → Int
 | [] => 0
 | d :: r => d + 10000 * val r
def pw : Nat → Int
 | 0 => 1
 | n + 1 => 10000 * pw n
def Digs (l : List Int) : Prop := ∀ d ∈ l, 0 ≤ d ∧ d < 10000
def Canon (l : List Int) : Prop := Digs l ∧ ∀ d, l.getLast? = some d → d ≠ 0
theorem pw_pos (n : Nat) : 1 ≤ pw n := by
 induction n with
 | zero => exact Int.le_refl _
 | succ n ih => show 1 ≤ 10000 * pw n; omega
theorem pw_add (m n : Nat) : pw (m + n) = pw m * pw n := by
 induction m with
 | zero => rw [Nat.zero_add]; show _ = 1 * _; rw [Int.one_mul]
 | succ m ih => rw [Nat.succ_add]; show 10000 * pw (m + n) = 10000 * pw m * pw n; rw [ih, Int.mul_assoc]
theorem pw_succ (n : Nat) : pw (n + 1) = 10000 * pw n := rfl
theorem pw_mono {m n : Nat} (h : m ≤ n) : pw m ≤ pw n := by
 induction n with
 | zero => rw [Nat.le_zero.1 h]; exact Int.le_refl _
 | succ n ih =>
  rcases Nat.lt_or_ge m (n + 1) with h1 | h1
  ·have := ih om9
   have := pw_pos n
   rw [pw_succ]; omega
  ·rw [show m = n + 1 by omega]; exact Int.le_refl _
theorem val_append (l k : List Int) : val (l ++ k) = val l + pw l.length * val k := by
 induction l with
 | nil => show val k = 0 + 1 * val k; omega
 | cons d l ih =>
  show d + 10000 * val (l ++ k) = d + 10000 * val l + 10000 * pw l.length * val k
  rw [ih, Int.mul_add, Int.mul_assoc, Int.add_assoc]
theorem val_snoc (l : List Int) (d : Int) : val (l ++ [d]) = val l + pw l.length * d := by
 rw [val_append]
 show _ + _ * (d + 10000 * 0) = _
 rw [Int.mul_zero, Int.add_zero]
theorem Digs.snoc {l : List Int} {d : Int} (h : Digs l) (h0 : 0 ≤ d) (h1 : d < 10000) : Digs (l ++ [d]) := fun x hx => by
 rcases List.mem_append.1 hx with hx | hx
 ·exact h x hx
 ·rw [List.mem_singleton.1 hx]; exact ⟨h0, h1⟩
theorem Digs.tail {d : Int} {l : List Int} (h : Digs (d :: l)) : (0 ≤ d ∧ d < 10000) ∧ Digs l := ⟨h d (List.mem_cons_self ..), fun x hx => h x (List.mem_cons_of_mem _ hx)⟩
theorem val_bound {l : List Int} (h : Digs l) : 0 ≤ val l ∧ val l < pw l.length := by
 induction l with
 | nil => exact ⟨Int.le_refl _, by show (0 : Int) < 1; omega⟩
 | cons d l ih =>
  obtain ⟨hd, hl⟩ := h.tail
  have := ih hl
  show 0 ≤ d + 10000 * val l ∧ d + 10000 * val l < 10000 * pw l.length
  omega
theorem canon_low {l : List Int} (h : Canon l) (hne : l ≠ []) : pw (l.length - 1) ≤ val l := by
 have hd : Digs l.dropLast := fun x hx => h.1 x ((List.dropLast_sublist l).subset hx)
 have hb := val_bound hd
 have hl := h.1 (l.getLast hne) (List.getLast_mem hne)
 have h0 := h.2 (l.getLast hne) (List.getLast?_eq_some_getLast hne)
 have e := val_snoc l.dropLast (l.getLast hne)
 rw [List.dropLast_concat_getLast hne, List.length_dropLast] at e
 have hp := pw_pos (l.length - 1)
 have := Int.mul_le_mul_of_nonneg_left (show 1 ≤ l.getLast hne by omega) (show (0 : Int) ≤ pw (l.length - 1) by omega)
 omega
theorem canon_nil {l : List Int} (h : Canon l) : val l = 0 ↔ l = [] := by
 constructor
 ·intro h0
  rcases List.eq_nil_or_concat l with h1 | ⟨k, d, rfl⟩
  ·exact h1
  ·have h2 := canon_low h (by simp)
   have h3 := pw_pos ((k.concat d).length - 1)
   omega
 ·rintro rfl; rfl
theorem val_set (l : List Int) (p : Nat) (v : Int) (hp : p < l.length) : val (l.set p (l.getD p 0 + v)) = val l + pw p * v := by
 induction l generalizing p with
 | nil => simp at hp
 | cons d l ih =>
  cases p with
  | zero => show (d + v) + 10000 * val l = d + 10000 * val l + 1 * v; omega
  | succ p =>
   have := ih p (by simpa using hp)
   show d + 10000 * val (l.set p (l.getD p 0 + v)) = d + 10000 * val l + 10000 * pw p * v
   rw [this, Int.mul_add, Int.mul_assoc, Int.add_assoc]
theorem len_le_of_val {l : List Int} (h : Canon l) {n : Nat} (hv : val l < pw n) : l.length ≤ n := by
 rcases Nat.lt_or_ge n l.length with h1 | h1
 ·have hne : l ≠ [] := by intro e; rw [e] at h1; simp at h1
  have h2 := canon_low h hne
  have h3 := pw_mono (show n ≤ l.length - 1 by omega)
  omega
 ·exact h1
theorem neg_tmod (m : Int) (h : 0 ≤ m) : (-m).tmod 10000 = -(m % 10000) := by rw [Int.neg_tmod, Int.tmod_eq_emod_of_nonneg h]
theorem neg_tdiv (m : Int) (h : 0 ≤ m) : (-m).tdiv 10000 = -(m / 10000) := by rw [Int.neg_tdiv, Int.tdiv_eq_ediv_of_nonneg h]
def Taken (z m : Int) (l : List Int) : Prop := z = val l + pw l.length * m ∧ Digs l ∧ (m = 0 → ∀ d, l.getLast? = some d → d ≠ 0) ∧ (0 < m → pw l.length * m ≤ z)
theorem taken_start (z : Int) (h : 0 ≤ z) : Taken z z [] := ⟨by show z = 0 + 1 * z; omega, fun d h => (by cases h), fun _ d h => (by cases h), fun _ => (by show 1 * z ≤ z; omega)⟩
theorem taken_step {z m : Int} {l : List Int} (h : Taken z m l) (hm : 0 < m) : Taken z (m / 10000) (l ++ [m % 10000]) := by
 obtain ⟨h1, h2, h3, h4⟩ := h
 have e : m = 10000 * (m / 10000) + m % 10000 := (Int.mul_ediv_add_emod m 10000).symm
 have k0 := Int.emod_nonneg m (show (10000 : Int) ≠ 0 by decide)
 have k1 := Int.emod_lt_of_pos m (show (0 : Int) < 10000 by decide)
 refine ⟨?_, h2.snoc k0 k1, fun h0 d hd => ?_, fun _ => ?_⟩
 ·rw [val_snoc, List.length_append, List.length_singleton, pw_succ, h1, Int.add_assoc]
  congr 1
  conv => lhs; rw [e]
  rw [Int.mul_add, ← Int.mul_assoc, Int.mul_comm (pw l.length) 10000]
  omega
 ·rw [List.getLast?_concat] at hd
  have : d = m % 10000 := by simpa using hd.symm
  omega
 ·have h5 := val_bound (h2.snoc k0 k1)
  rw [List.length_append, List.length_singleton, pw_succ]
  have hv := val_bound h2
  have : pw l.length * m = 10000 * pw l.length * (m / 10000) + pw l.length * (m % 10000) := by
   conv => lhs; rw [e]
   rw [Int.mul_add, ← Int.mul_assoc, Int.mul_comm (pw l.length) 10000]
  have h6 := Int.mul_nonneg (show 0 ≤ pw l.length by have := pw_pos l.length; omega) k0
  omega
theorem taken_end {z : Int} {l : List Int} (h : Taken z 0 l) : Canon l ∧ val l = z := by
 obtain ⟨h1, h2, h3, _⟩ := h
 rw [Int.mul_zero, Int.add_zero] at h1
 exact ⟨⟨h2, h3 rfl⟩, h1.symm⟩
theorem pw_five : pw 5 = 100000000000000000000 := by decide
theorem taken_len {z m : Int} {l : List Int} (h : Taken z m l) (hm : 0 < m) (hz : z ≤ 9223372036854775808) : l.length < 5 := by
 have h4 := h.2.2.2 hm
 rcases Nat.lt_or_ge l.length 5 with h5 | h5
 ·exact h5
 ·have h6 := pw_mono h5
  rw [pw_five] at h6
  have := Int.mul_le_mul_of_nonneg_left (show 1 ≤ m by omega) (show 0 ≤ pw l.length by omega)
  omega
end
section
open Go.RowKit
def IsI (w : World) (base : Nat) (A : Option Addr) (n : Nat) (P : List Int) : Prop :=
 P.length = n ∧ (0 < n → ∃ b o : Nat, A = some ⟨b, o, none⟩ ∧ base ≤ b ∧ b < w.heap.size ∧ ∀ j, j < n → w.cell? ⟨b, o + j, none⟩ = some (.int .i64 (P.getD j 0)))
theorem IsI.below {w w1 : World} {base n : Nat} {A : Option Addr} {P : List Int} (h : IsI w base A n P) (hb : Below w.heap.size w w1) : IsI w1 base A n P :=
 ⟨h.1, fun h0 => by
  obtain ⟨b, o, e, h1, h2, h3⟩ := h.2 h0
  exact ⟨b, o, e, h1, Nat.lt_of_lt_of_le h2 hb.size, fun j hj => (hb.cell (p := ⟨b, _, none⟩) h2).trans (h3 j hj)⟩⟩
theorem IsI.setCell {w : World} {base n : Nat} {A : Option Addr} {P : List Int} (h : IsI w base A n P) {p : Addr} (hp : p.block < base) (v : Value) : IsI (w.setCell p v) base A n P :=
 ⟨h.1, fun h0 => by
  obtain ⟨b, o, e, h1, h2, h3⟩ := h.2 h0
  refine ⟨b, o, e, h1, by rw [World.size_setCell]; exact h2, fun j hj => ?_⟩
  rw [World.cell?_setCell_other _ _ _ _ (by intro e; subst e; simp at hp; omega)]
  exact h3 j hj⟩
theorem IsI.mono {w : World} {base base' n : Nat} {A : Option Addr} {P : List Int} (h : IsI w base A n P) (hb : base' ≤ base) : IsI w base' A n P :=
 ⟨h.1, fun h0 => by
  obtain ⟨b, o, e, h1, h2, h3⟩ := h.2 h0
  exact ⟨b, o, e, Nat.le_trans hb h1, h2, h3⟩⟩
theorem isI_of_own {w : World} {base n : Nat} {e : TypeId} {v : Value} {P : List Int} (h : w.ownsRow base e 1 v n (P.map (Value.int .i64))) : ∃ A cap, v = .slice A n cap ∧ n ≤ cap ∧ IsI w base A n P := by
 obtain ⟨hl, h⟩ := h
 have hn : P.length = n := by simpa using hl
 rcases h with ⟨rfl, rfl⟩ | ⟨g, cap, cur, rfl, hg, hh, hc, hm, hz, ht⟩
 ·exact ⟨none, 0, rfl, Nat.le_refl _, hn, fun h => absurd h om9⟩
 ·have hlt : g < w.heap.size := by
   rcases Nat.lt_or_ge g w.heap.size with h | h
   ·exact h
   ·rw [Array.getElem?_eq_none h] at hh; cases hh
  refine ⟨_, cap, rfl, hc, hn, fun h0 => ⟨g, 0, rfl, hg, hlt, fun j hj => ?_⟩⟩
  rw [cell_of_row w g (0 + j) cur e (0, 0) hh, ← Array.getElem?_toList]
  have h1 : (cur.toList.take (n * 1))[j]? = (P.map (Value.int .i64))[j]? := by rw [ht]
  rw [List.getElem?_take_of_lt om9] at h1
  rw [Nat.zero_add, h1, List.getElem?_map, List.getD_eq_getElem?_getD]
  have hjz : j < P.length := by omega
  simp [hjz]
def BigV (w : World) (v : Value) (z : Int) : Prop :=
 ∃ (A : Option Addr) (n cap : Nat) (P : List Int), v = .agg #[.bool (decide (z < 0)), .slice A n cap] ∧ IsI w 0 A n P ∧ n ≤ cap ∧ n ≤ 64 ∧ Canon P ∧ val P = max z (-z)
theorem BigV.below {w w1 : World} {v : Value} {z : Int} (h : BigV w v z) (hb : Below w.heap.size w w1) : BigV w1 v z := by
 obtain ⟨A, n, cap, P, h1, h2, h3⟩ := h
 exact ⟨A, n, cap, P, h1, h2.below hb, h3⟩
def BigB (w : World) (base : Nat) (v : Value) (z : Int) : Prop :=
 ∃ (A : Option Addr) (n cap : Nat) (P : List Int), v = .agg #[.bool (decide (z < 0)), .slice A n cap] ∧ IsI w base A n P ∧ n ≤ cap ∧ n ≤ 64 ∧ Canon P ∧ val P = max z (-z)
theorem BigB.big {w : World} {base : Nat} {v : Value} {z : Int} (h : BigB w base v z) : BigV w v z := by
 obtain ⟨A, n, cap, P, h1, h2, h3⟩ := h
 exact ⟨A, n, cap, P, h1, h2.mono (Nat.zero_le _), h3⟩
theorem BigB.below {w w1 : World} {base : Nat} {v : Value} {z : Int} (h : BigB w base v z) (hb : Below w.heap.size w w1) : BigB w1 base v z := by
 obtain ⟨A, n, cap, P, h1, h2, h3⟩ := h
 exact ⟨A, n, cap, P, h1, h2.below hb, h3⟩
theorem BigB.mono {w : World} {base base' : Nat} {v : Value} {z : Int} (h : BigB w base v z) (hb : base' ≤ base) : BigB w base' v z := by
 obtain ⟨A, n, cap, P, h1, h2, h3⟩ := h
 exact ⟨A, n, cap, P, h1, h2.mono hb, h3⟩
theorem BigB.setCell {w : World} {base : Nat} {v : Value} {z : Int} (h : BigB w base v z) {p : Addr} (hp : p.block < base) (u : Value) : BigB (w.setCell p u) base v z := by
 obtain ⟨A, n, cap, P, h1, h2, h3⟩ := h
 exact ⟨A, n, cap, P, h1, h2.setCell hp u, h3⟩
def RetNew (base : Nat) (z : Int) (w : World) (e : Ending) (w' : World) : Prop := ∃ v, e = .returned v ∧ BigB w' base v z ∧ Below w.heap.size w w'
def RetBig (z : Int) (w : World) (e : Ending) (w' : World) : Prop := ∃ v, e = .returned v ∧ BigV w' v z ∧ Below w.heap.size w w'
theorem below_grownB {B : Nat} {w0 w w1 : World} {e : TypeId} {v : Value} {n : Nat} {xs : List Value} (h : Below B w0 w) (hown : w.ownsRow B e 1 v n xs) (hg : w.grownBy w1 v.ownBlock) (hB : B ≤ w.heap.size) : Below B w0 w1 := by
 refine h.grown hg hB (fun k hk => ?_)
 rcases hown.2 with ⟨rfl, _⟩ | ⟨g, cap, cur, rfl, hb, _⟩
 ·simp [Value.ownBlock] at hk
 ·simp [Value.ownBlock] at hk
  omega
theorem append_int {ops : Array Oper} {rest : List Oper} {o : Oper} {a : Act} {Q : Exit → Act → World → Prop} {w : World} (hgd : o.guard = none) (s x : Operand)
  (ho : o.op = .call { callee := .builtin .append, args := #[s, x], argTypes := #[30, 30] })
  (base : Nat) (v : Value) (n : Nat) (xs : List Value) (hs : a.eval s = v) (hown : w.ownsRow base 3 1 v n xs)
  (k : Int) (hx : a.eval x = .slice (some ⟨w.heap.size, 0, none⟩) 1 1) (hb : n + 1 ≤ 4194304) (hbase : base ≤ w.heap.size)
  (h : ∀ (A' : Option Addr) (cap' : Nat) w', w'.ownsRow base 3 1 (.slice A' (n + 1) cap') (n + 1) (xs ++ [.int .i64 k]) → Below base w w' → wpList Tryz.prog ops Q rest (a.put o.dst (.slice A' (n + 1) cap')) w') : wpList Tryz.prog ops Q (o :: rest) a (w.alloc (.cells #[.int .i64 k] 3)) := by
 have hI0 : (Tryz.prog.info? 3).map (fun i => (i.zero, i.size, i.bytes)) = some (some (.int .i64 0), 1, 8) := by kernel_rfl
 obtain ⟨i0, hi, hz0, hz1, hz2⟩ := info_parts hI0
 refine wpList_append_own _ hgd s x 30 ho base 3 i0 (.int .i64 0) 1 8 Tryz.underlying30 hi hz0 hz1 hz2 rfl de9 v n xs hs (hown.alloc _) ⟨w.heap.size, 0, none⟩ 1 1 [.int .i64 k] hx rfl (fun j u hu => ?_) (fun u hu => ?_) (by unfold maxLen; omega) om9 (by simp; omega) (fun v' w' h5 h6 _ => by
  have hb' := below_grownB ((Below.refl _ _).alloc hbase _) (hown.alloc _) h6 (by simp; omega)
  obtain ⟨A', cap', rfl⟩ : ∃ A' cap', v' = .slice A' (n + 1) cap' := by
   rcases h5.2 with ⟨_, h0⟩ | ⟨g, cap, cur, rfl, _⟩
   ·omega
   ·exact ⟨_, _, rfl⟩
  exact h A' cap' w' h5 hb')
 ·rcases j with _ | j
  ·simp at hu
   subst hu
   simp [Addr.add, go_sem]
  ·simp at hu
 ·simp at hu
  subst hu
  rfl
theorem res2b {fn : Func} {p : Tmp} (h : fn.results = #[.cell p 156]) (tmps : Array Value) (W : World) (b : Nat) (x y : Value)
  (hp : tmps.getD p undef = .pointer (some ⟨b, 0, none⟩)) (h0 : (W.cell? ⟨b, 0, none⟩).isSome = true) (h1 : (W.cell? ⟨b, 1, none⟩).isSome = true) :
  (results fn tmps).run Tryz.prog ((W.setCell ⟨b, 0, none⟩ x).setCell ⟨b, 1, none⟩ y) = .ok (.agg #[x, y]) ((W.setCell ⟨b, 0, none⟩ x).setCell ⟨b, 1, none⟩ y) := by
 have n1 : (⟨b, 1, none⟩ : Addr) ≠ ⟨b, 0, none⟩ := by simp
 have n0 : (⟨b, 0, none⟩ : Addr) ≠ ⟨b, 1, none⟩ := by simp
 have e1 : ((W.setCell ⟨b, 0, none⟩ x).setCell ⟨b, 1, none⟩ y).cell? ⟨b, 0, none⟩ = some x :=
  (World.cell?_setCell_other _ _ _ _ n1).trans (World.cell?_setCell_same' _ _ _ h0)
 have e2 : ((W.setCell ⟨b, 0, none⟩ x).setCell ⟨b, 1, none⟩ y).cell? ⟨b, 1, none⟩ = some y :=
  World.cell?_setCell_same' _ _ _ (by rw [World.cell?_setCell_other _ _ _ _ n0]; exact h1)
 have hp' : tmps[p]?.getD undef = .pointer (some ⟨b, 0, none⟩) := by simpa using hp
 simp only [results, h]
 simp [Sem.run_bind, Result.andThen, go_sem, hp', e1, e2]
theorem own_setCell {w : World} {base n : Nat} {e : TypeId} {v : Value} {xs : List Value} (h : w.ownsRow base e 1 v n xs) {p : Addr} (hp : p.block < base) (u : Value) : (w.setCell p u).ownsRow base e 1 v n xs := by
 refine ⟨h.1, ?_⟩
 rcases h.2 with h0 | ⟨g, cap, cur, h1, h2, h3, h4⟩
 ·exact .inl h0
 ·exact .inr ⟨g, cap, cur, h1, h2, (Below.heap_setCell _ _ _ _ om9).trans h3, h4⟩
end
section
open Go.RowKit
set_option maxHeartbeats 4000000 in
theorem of_pos (z : Int) (w : World) (h0 : 0 ≤ z) (h1 : z ≤ 9223372036854775807) :
  Calls Tryz.prog 89 #[.int .i64 z] w (RetBig z w) := by
 have HD : Hid (decide (z < 0) = false ∧ max z (-z) = z) := by
  have h : decide (z < 0) = false ∧ max z (-z) = z := ⟨by simp; omega, by omega⟩
  exact Lib.hid h
 have HS := Lib.hid (taken_start z om9)
 go_enter Tryz.func89, Tryz.ntmps89
 go_wp2_with fail
 go_loopw [0, 4] (fun n _ wr => ∃ (m : Int) (l : List Int) (sl : Value), n = .int .i64 m ∧ 0 ≤ m ∧ m ≤ z ∧ Taken z m l ∧ wr.cell? ⟨w.heap.size + 1, 0, none⟩ = some (.bool false) ∧ wr.cell? ⟨w.heap.size + 1, 1, none⟩ = some sl ∧ wr.frozen? ⟨w.heap.size + 1, 0, none⟩ = false ∧ wr.frozen? ⟨w.heap.size + 1, 1, none⟩ = false ∧ wr.ownsRow (w.heap.size + 1 + 1) 3 1 sl l.length (l.map (Value.int .i64)) ∧ (wr).cell? ⟨w.heap.size, 0, none⟩ = some (cur (wr) ⟨w.heap.size, 0, none⟩) ∧ (wr).frozen? ⟨w.heap.size, 0, none⟩ = false ∧ (wr).cell? ⟨w.heap.size, 1, none⟩ = some (cur (wr) ⟨w.heap.size, 1, none⟩) ∧ (wr).frozen? ⟨w.heap.size, 1, none⟩ = false ∧ w.heap.size + 1 < wr.heap.size ∧ Below w.heap.size w wr) (fun n _ _ => (intOf n).natAbs)
 case atStart => exact ⟨z, [], .slice none 0 0, rfl, by omega, Int.le_refl _, HS.out, (by go_simp), (by go_simp), (by go_simp), (by go_simp), ⟨rfl, .inl ⟨rfl, rfl⟩⟩, (by simp only [cur_iff, isSome_setCell]; go_simp), (by go_simp), (by simp only [cur_iff, isSome_setCell]; go_simp), (by go_simp), (by ((try simp only [World.size_alloc, World.size_setCell, size_drew, size_drewN]); omega)), (by (repeat first | with_reducible exact Below.refl _ _ | (with_reducible refine Below.alloc ?_ ?_ _; rotate_left; exact (by first | omega | (simp; done)))))⟩
 case round =>
  obtain ⟨m, l, sl, rfl, hm0, hm1, ht, c0, c1, f0, f1, hown, r0, rf0, r1, rf1, hsz, hB⟩ := hrel
  by_cases hz : m = 0
  ·subst hz
   obtain ⟨A, cap, rfl, hc, hI⟩ := isI_of_own hown
   obtain ⟨hcan, hval⟩ := taken_end ht
   have hl5 := len_le_of_val hcan (n := 5) (by rw [pw_five]; omega)
   have HC := Lib.hid hcan
   have HV := Lib.hid hval
   have HI := Lib.hid hI
   have hw0 : w.heap.size < wr.heap.size := by omega
   clear ht hown hcan hval hI
   go_wp2
   exact bodyPost_ret (res2b Tryz.results89 _ _ _ _ _ rfl (by (try simp only [isSome_setCell]); first | assumption | go_simp) (by (try simp only [isSome_setCell]); first | assumption | go_simp)) rfl ⟨_, rfl, ⟨A, l.length, cap, l, by rw [HD.out.1], ((HI.out.setCell (by simp; omega) _).setCell (by simp; omega) _).mono (Nat.zero_le _), hc, by omega, HC.out, by rw [HD.out.2, HV.out]⟩, by (repeat first | with_reducible assumption | (with_reducible refine Below.setCell ?_ ?_ _; rotate_left; exact (by (simp; done))))⟩
  ·have hl := taken_len ht om9 om9
   have ht2 := taken_step ht om9
   have HO := Lib.hid hown
   clear ht hown
   have k0 := Int.emod_nonneg m (show (10000 : Int) ≠ 0 by decide)
   have k1 := Int.emod_lt_of_pos m (show (0 : Int) < 10000 by decide)
   have q0 : 0 ≤ m / 10000 := Int.ediv_nonneg hm0 de9
   have q1 : m / 10000 ≤ m := Int.ediv_le_self 10000 hm0
   have q2 : m / 10000 < m := by omega
   obtain ⟨r, hr⟩ : ∃ r, m % 10000 = r := ⟨_, rfl⟩
   rw [hr] at ht2 k0 k1
   have HT := Lib.hid ht2
   clear ht2
   have bne : (m != 0) = true := by rw [bne_iff_ne]; exact hz
   have hw0 : w.heap.size < wr.heap.size := by omega
   by_cases hr0 : r = 0
   ·subst hr0
    go_wp2_with (at_builtin; refine append_int rfl (Operand.tmp 17) (Operand.tmp 19) rfl (w.heap.size + 1 + 1) sl l.length _ rfl HO.out _ rfl om9 om9 ?_; intro A1 cap1 w1 hown1 hG; have HO1 := Lib.hid hown1; clear hown1; have hB1 : Below w.heap.size w w1 := hB.trans (hG.mono om9); have hgs := hG.size; have g0 := (hG.cell (p := ⟨w.heap.size + 1, 0, none⟩) (by simp)).trans c0; have g1 := (hG.cell (p := ⟨w.heap.size + 1, 1, none⟩) (by simp)).trans c1; have g2 := (hG.frozen (p := ⟨w.heap.size + 1, 0, none⟩) (by simp)).trans f0; have g3 := (hG.frozen (p := ⟨w.heap.size + 1, 1, none⟩) (by simp)).trans f1; have g4 := (hG.cell (p := ⟨w.heap.size, 0, none⟩) (by simp; omega)).trans r0; have g5 := (hG.frozen (p := ⟨w.heap.size, 0, none⟩) (by simp; omega)).trans rf0; have g6 := (hG.cell (p := ⟨w.heap.size, 1, none⟩) (by simp; omega)).trans r1; have g7 := (hG.frozen (p := ⟨w.heap.size, 1, none⟩) (by simp; omega)).trans rf1)
    go_roundw
    case rel => exact ⟨m / 10000, l ++ [0], .slice A1 (l.length + 1) cap1, rfl, q0, by omega, HT.out, (by go_simp), (by go_simp), (by go_simp), (by go_simp), (by rw [List.length_append, List.map_append]; exact own_setCell HO1.out (by simp) _), (by simp only [cur_iff, isSome_setCell]; go_simp), (by go_simp), (by simp only [cur_iff, isSome_setCell]; go_simp), (by go_simp), (by ((try simp only [World.size_alloc, World.size_setCell, size_drew, size_drewN]); omega)), (by (repeat first | with_reducible assumption | (with_reducible refine Below.setCell ?_ ?_ _; rotate_left; exact (by (simp; done)))))⟩
    case measure => simp [intOf]; omega
   ·have hr1 : 0 < r := by omega
    clear hr0
    go_wp2_with (at_builtin; refine append_int rfl (Operand.tmp 17) (Operand.tmp 19) rfl (w.heap.size + 1 + 1) sl l.length _ rfl HO.out _ rfl om9 om9 ?_; intro A1 cap1 w1 hown1 hG; have HO1 := Lib.hid hown1; clear hown1; have hB1 : Below w.heap.size w w1 := hB.trans (hG.mono om9); have hgs := hG.size; have g0 := (hG.cell (p := ⟨w.heap.size + 1, 0, none⟩) (by simp)).trans c0; have g1 := (hG.cell (p := ⟨w.heap.size + 1, 1, none⟩) (by simp)).trans c1; have g2 := (hG.frozen (p := ⟨w.heap.size + 1, 0, none⟩) (by simp)).trans f0; have g3 := (hG.frozen (p := ⟨w.heap.size + 1, 1, none⟩) (by simp)).trans f1; have g4 := (hG.cell (p := ⟨w.heap.size, 0, none⟩) (by simp; omega)).trans r0; have g5 := (hG.frozen (p := ⟨w.heap.size, 0, none⟩) (by simp; omega)).trans rf0; have g6 := (hG.cell (p := ⟨w.heap.size, 1, none⟩) (by simp; omega)).trans r1; have g7 := (hG.frozen (p := ⟨w.heap.size, 1, none⟩) (by simp; omega)).trans rf1)
    go_roundw
    case rel => exact ⟨m / 10000, l ++ [r], .slice A1 (l.length + 1) cap1, rfl, q0, by omega, HT.out, (by go_simp), (by go_simp), (by go_simp), (by go_simp), (by rw [List.length_append, List.map_append]; exact own_setCell HO1.out (by simp) _), (by simp only [cur_iff, isSome_setCell]; go_simp), (by go_simp), (by simp only [cur_iff, isSome_setCell]; go_simp), (by go_simp), (by ((try simp only [World.size_alloc, World.size_setCell, size_drew, size_drewN]); omega)), (by (repeat first | with_reducible assumption | (with_reducible refine Below.setCell ?_ ?_ _; rotate_left; exact (by (simp; done)))))⟩
    case measure => simp [intOf]; omega
set_option maxHeartbeats 4000000 in
theorem of_neg (z : Int) (w : World) (h0 : 0 < z) (h1 : z ≤ 9223372036854775807) :
  Calls Tryz.prog 89 #[.int .i64 (-z)] w (RetBig (-z) w) := by
 have HD : Hid (decide ((-z) < 0) = true ∧ max (-z) (-(-z)) = z) := by
  have h : decide ((-z) < 0) = true ∧ max (-z) (-(-z)) = z := ⟨by simp; omega, by omega⟩
  exact Lib.hid h
 have HS := Lib.hid (taken_start z om9)
 go_enter Tryz.func89, Tryz.ntmps89
 go_wp2_with fail
 go_loopw [0, 4] (fun n _ wr => ∃ (m : Int) (l : List Int) (sl : Value), n = .int .i64 (-m) ∧ 0 ≤ m ∧ m ≤ z ∧ Taken z m l ∧ wr.cell? ⟨w.heap.size + 1, 0, none⟩ = some (.bool true) ∧ wr.cell? ⟨w.heap.size + 1, 1, none⟩ = some sl ∧ wr.frozen? ⟨w.heap.size + 1, 0, none⟩ = false ∧ wr.frozen? ⟨w.heap.size + 1, 1, none⟩ = false ∧ wr.ownsRow (w.heap.size + 1 + 1) 3 1 sl l.length (l.map (Value.int .i64)) ∧ (wr).cell? ⟨w.heap.size, 0, none⟩ = some (cur (wr) ⟨w.heap.size, 0, none⟩) ∧ (wr).frozen? ⟨w.heap.size, 0, none⟩ = false ∧ (wr).cell? ⟨w.heap.size, 1, none⟩ = some (cur (wr) ⟨w.heap.size, 1, none⟩) ∧ (wr).frozen? ⟨w.heap.size, 1, none⟩ = false ∧ w.heap.size + 1 < wr.heap.size ∧ Below w.heap.size w wr) (fun n _ _ => (intOf n).natAbs)
 case atStart => exact ⟨z, [], .slice none 0 0, rfl, by omega, Int.le_refl _, HS.out, (by go_simp), (by go_simp), (by go_simp), (by go_simp), ⟨rfl, .inl ⟨rfl, rfl⟩⟩, (by simp only [cur_iff, isSome_setCell]; go_simp), (by go_simp), (by simp only [cur_iff, isSome_setCell]; go_simp), (by go_simp), (by ((try simp only [World.size_alloc, World.size_setCell, size_drew, size_drewN]); omega)), (by (repeat first | with_reducible exact Below.refl _ _ | (with_reducible refine Below.alloc ?_ ?_ _; rotate_left; exact (by first | omega | (simp; done)))))⟩
 case round =>
  obtain ⟨m, l, sl, rfl, hm0, hm1, ht, c0, c1, f0, f1, hown, r0, rf0, r1, rf1, hsz, hB⟩ := hrel
  by_cases hz : m = 0
  ·subst hz
   obtain ⟨A, cap, rfl, hc, hI⟩ := isI_of_own hown
   obtain ⟨hcan, hval⟩ := taken_end ht
   have hl5 := len_le_of_val hcan (n := 5) (by rw [pw_five]; omega)
   have HC := Lib.hid hcan
   have HV := Lib.hid hval
   have HI := Lib.hid hI
   have hw0 : w.heap.size < wr.heap.size := by omega
   clear ht hown hcan hval hI
   go_wp2
   exact bodyPost_ret (res2b Tryz.results89 _ _ _ _ _ rfl (by (try simp only [isSome_setCell]); first | assumption | go_simp) (by (try simp only [isSome_setCell]); first | assumption | go_simp)) rfl ⟨_, rfl, ⟨A, l.length, cap, l, by rw [HD.out.1], ((HI.out.setCell (by simp; omega) _).setCell (by simp; omega) _).mono (Nat.zero_le _), hc, by omega, HC.out, by rw [HD.out.2, HV.out]⟩, by (repeat first | with_reducible assumption | (with_reducible refine Below.setCell ?_ ?_ _; rotate_left; exact (by (simp; done))))⟩
  ·have hl := taken_len ht om9 om9
   have ht2 := taken_step ht om9
   have HO := Lib.hid hown
   clear ht hown
   have k0 := Int.emod_nonneg m (show (10000 : Int) ≠ 0 by decide)
   have k1 := Int.emod_lt_of_pos m (show (0 : Int) < 10000 by decide)
   have q0 : 0 ≤ m / 10000 := Int.ediv_nonneg hm0 de9
   have q1 : m / 10000 ≤ m := Int.ediv_le_self 10000 hm0
   have q2 : m / 10000 < m := by omega
   obtain ⟨r, hr⟩ : ∃ r, m % 10000 = r := ⟨_, rfl⟩
   rw [hr] at ht2 k0 k1
   have HT := Lib.hid ht2
   clear ht2
   have bne : (-m != 0) = true := by rw [bne_iff_ne]; omega
   have tm := neg_tmod m hm0
   rw [hr] at tm
   have td := neg_tdiv m hm0
   have hw0 : w.heap.size < wr.heap.size := by omega
   by_cases hr0 : r = 0
   ·subst hr0
    go_wp2_with (at_builtin; refine append_int rfl (Operand.tmp 17) (Operand.tmp 19) rfl (w.heap.size + 1 + 1) sl l.length _ rfl HO.out _ rfl om9 om9 ?_; intro A1 cap1 w1 hown1 hG; have HO1 := Lib.hid hown1; clear hown1; have hB1 : Below w.heap.size w w1 := hB.trans (hG.mono om9); have hgs := hG.size; have g0 := (hG.cell (p := ⟨w.heap.size + 1, 0, none⟩) (by simp)).trans c0; have g1 := (hG.cell (p := ⟨w.heap.size + 1, 1, none⟩) (by simp)).trans c1; have g2 := (hG.frozen (p := ⟨w.heap.size + 1, 0, none⟩) (by simp)).trans f0; have g3 := (hG.frozen (p := ⟨w.heap.size + 1, 1, none⟩) (by simp)).trans f1; have g4 := (hG.cell (p := ⟨w.heap.size, 0, none⟩) (by simp; omega)).trans r0; have g5 := (hG.frozen (p := ⟨w.heap.size, 0, none⟩) (by simp; omega)).trans rf0; have g6 := (hG.cell (p := ⟨w.heap.size, 1, none⟩) (by simp; omega)).trans r1; have g7 := (hG.frozen (p := ⟨w.heap.size, 1, none⟩) (by simp; omega)).trans rf1)
    go_roundw
    case rel => exact ⟨m / 10000, l ++ [0], .slice A1 (l.length + 1) cap1, rfl, q0, by omega, HT.out, (by go_simp), (by go_simp), (by go_simp), (by go_simp), (by rw [List.length_append, List.map_append]; exact own_setCell HO1.out (by simp) _), (by simp only [cur_iff, isSome_setCell]; go_simp), (by go_simp), (by simp only [cur_iff, isSome_setCell]; go_simp), (by go_simp), (by ((try simp only [World.size_alloc, World.size_setCell, size_drew, size_drewN]); omega)), (by (repeat first | with_reducible assumption | (with_reducible refine Below.setCell ?_ ?_ _; rotate_left; exact (by (simp; done)))))⟩
    case measure => simp [intOf]; omega
   ·have hr1 : 0 < r := by omega
    clear hr0
    go_wp2_with (at_builtin; refine append_int rfl (Operand.tmp 17) (Operand.tmp 19) rfl (w.heap.size + 1 + 1) sl l.length _ rfl HO.out _ rfl om9 om9 ?_; intro A1 cap1 w1 hown1 hG; have HO1 := Lib.hid hown1; clear hown1; have hB1 : Below w.heap.size w w1 := hB.trans (hG.mono om9); have hgs := hG.size; have g0 := (hG.cell (p := ⟨w.heap.size + 1, 0, none⟩) (by simp)).trans c0; have g1 := (hG.cell (p := ⟨w.heap.size + 1, 1, none⟩) (by simp)).trans c1; have g2 := (hG.frozen (p := ⟨w.heap.size + 1, 0, none⟩) (by simp)).trans f0; have g3 := (hG.frozen (p := ⟨w.heap.size + 1, 1, none⟩) (by simp)).trans f1; have g4 := (hG.cell (p := ⟨w.heap.size, 0, none⟩) (by simp; omega)).trans r0; have g5 := (hG.frozen (p := ⟨w.heap.size, 0, none⟩) (by simp; omega)).trans rf0; have g6 := (hG.cell (p := ⟨w.heap.size, 1, none⟩) (by simp; omega)).trans r1; have g7 := (hG.frozen (p := ⟨w.heap.size, 1, none⟩) (by simp; omega)).trans rf1)
    go_roundw
    case rel => exact ⟨m / 10000, l ++ [r], .slice A1 (l.length + 1) cap1, rfl, q0, by omega, HT.out, (by go_simp), (by go_simp), (by go_simp), (by go_simp), (by rw [List.length_append, List.map_append]; exact own_setCell HO1.out (by simp) _), (by simp only [cur_iff, isSome_setCell]; go_simp), (by go_simp), (by simp only [cur_iff, isSome_setCell]; go_simp), (by go_simp), (by ((try simp only [World.size_alloc, World.size_setCell, size_drew, size_drewN]); omega)), (by (repeat first | with_reducible assumption | (with_reducible refine Below.setCell ?_ ?_ _; rotate_left; exact (by (simp; done)))))⟩
    case measure => simp [intOf]; omega
end
section
open Go.RowKit
theorem val_zeros (P : List Int) (k : Nat) (hk : k ≤ P.length) (h : ∀ j, k ≤ j → j < P.length → P.getD j 0 = 0) : val (P.take k) = val P := by
 have key : ∀ R : List Int, (∀ j, j < R.length → R.getD j 0 = 0) → val R = 0 := by
  intro R
  induction R with
  | nil => intro _; rfl
  | cons d R ih =>
   intro h
   have h0 : d = 0 := by simpa using h 0 (by simp)
   have h1 := ih (fun j hj => by simpa using h (j + 1) (by simpa using hj))
   show d + 10000 * val R = 0
   omega
 have e := val_append (P.take k) (P.drop k)
 rw [List.take_append_drop] at e
 have hz := key (P.drop k) (fun j hj => by
  have hj' : k + j < P.length := by simp at hj; omega
  have := h (k + j) om9 hj'
  simpa [List.getD_eq_getElem?_getD, List.getElem?_drop] using this)
 rw [hz, Int.mul_zero, Int.add_zero] at e
 exact e.symm
theorem canon_take (P : List Int) (k : Nat) (hd : Digs P) (hk : k ≤ P.length) (hl : 0 < k → P.getD (k - 1) 0 ≠ 0) : Canon (P.take k) := by
 refine ⟨fun x hx => hd x (List.mem_of_mem_take hx), fun d h => ?_⟩
 rcases k with _ | k
 ·simp at h
 ·have h1 := hl om9
  rw [List.take_succ_eq_append_getElem om9, List.getLast?_concat] at h
  have h2 : P[k] = d := by simpa using h
  rw [List.getD_eq_getElem?_getD, Nat.add_sub_cancel, List.getElem?_eq_getElem om9] at h1
  rw [← h2]
  exact h1
theorem res2c {fn : Func} {p : Tmp} (h : fn.results = #[.cell p 156]) (tmps : Array Value) (W : World) (b : Nat) (x y : Value)
  (hp : tmps.getD p undef = .pointer (some ⟨b, 0, none⟩)) (h0 : W.cell? ⟨b, 0, none⟩ = some x) (h1 : W.cell? ⟨b, 1, none⟩ = some y) :
  (results fn tmps).run Tryz.prog W = .ok (.agg #[x, y]) W := by
 have hp' : tmps[p]?.getD undef = .pointer (some ⟨b, 0, none⟩) := by simpa using hp
 simp only [results, h]
 simp [Sem.run_bind, Result.andThen, go_sem, hp', h0, h1]
def Trimmed (base : Nat) (neg : Bool) (n : Nat) (P : List Int) (w : World) (e : Ending) (w' : World) : Prop :=
 ∃ (A : Option Addr) (k cap : Nat), e = .returned (.agg #[.bool (neg && decide (0 < k)), .slice A k cap]) ∧ IsI w' base A k (P.take k) ∧ k ≤ cap ∧ k ≤ n ∧ Canon (P.take k) ∧ val (P.take k) = val P ∧ Below w.heap.size w w'
set_option maxHeartbeats 4000000 in
theorem trim_any (base : Nat) (neg : Bool) (A : Option Addr) (n cap : Nat) (P : List Int) (w : World) (hI : IsI w base A n P) (hc : n ≤ cap) (hn : n ≤ 64) (hd : Digs P) :
  Calls Tryz.prog 132 #[.agg #[.bool neg, .slice A n cap]] w (Trimmed base neg n P w) := by
 have HL := Lib.hid hI.1
 have HI := Lib.hid hI
 have HD := Lib.hid hd
 clear hI hd
 go_enter Tryz.func132, Tryz.ntmps132
 go_wp2_with fail
 go_loop [3] (fun s => ∃ k : Nat, k ≤ n ∧ s = .int .i64 k ∧ ∀ j, k ≤ j → j < n → P.getD j 0 = 0) (fun s => (intOf s).toNat)
 case atStart => exact ⟨n, Nat.le_refl _, rfl, fun j h1 h2 => by omega⟩
 case round =>
  obtain ⟨k, hk, rfl, hz⟩ := hrel
  have HZ := Lib.hid hz
  clear hz
  rcases k with _ | k
  ·go_wp2
   exact bodyPost_ret (res2c Tryz.results132 _ _ _ (.bool false) (.slice A 0 cap) rfl (by go_simp) (by go_simp)) rfl ⟨A, 0, cap, by simp, ⟨by simp, fun h => absurd h om9⟩, Nat.zero_le _, Nat.zero_le _, canon_take P 0 HD.out (Nat.zero_le _) (fun h => absurd h om9), val_zeros P 0 (Nat.zero_le _) (fun j h1 h2 => HZ.out j h1 (by rw [← HL.out]; exact h2)), by (repeat first | with_reducible exact Below.refl _ _ | (with_reducible refine Below.alloc ?_ ?_ _; rotate_left; exact (by first | omega | (simp; done))))⟩
  ·have HI2 := HI
   obtain ⟨b, o, rfl, hbase, hb, hcells⟩ := HI.out.2 om9
   have hcell := hcells k om9
   have HC := Lib.hid hcells
   clear hcells HI
   obtain ⟨x, hxe⟩ : ∃ x, P.getD k 0 = x := ⟨_, rfl⟩
   rw [hxe] at hcell
   have HX := Lib.hid hxe
   clear hxe
   have k0 : (0 : Int) ≤ k := by omega
   have k1 : (k : Int) < n := by omega
   by_cases hx : x = 0
   ·subst hx
    go_wp2
    go_round
    case rel => exact ⟨k, by omega, (by rfl), fun j h1 h2 => by
     rcases Nat.lt_or_ge k j with h3 | h3
     ·exact HZ.out j h3 h2
     ·rw [show j = k by omega]; exact HX.out⟩
    case measure => first | (simp [intOf]; done) | (simp [intOf]; omega)
   ·have b0 : (x == 0) = false := by rw [beq_eq_false_iff_ne]; exact hx
    have b1 : ((k : Int) + 1 == 0) = false := by rw [beq_eq_false_iff_ne]; omega
    have HN := Lib.hid hx
    clear hx
    go_wp2
    exact bodyPost_ret (res2c Tryz.results132 _ _ _ (.bool neg) (.slice (some ⟨b, o, none⟩) (k + 1) cap) rfl (by go_simp) (by go_simp)) rfl ⟨some ⟨b, o, none⟩, k + 1, cap, by simp, ⟨by rw [List.length_take, HL.out]; omega, fun _ => ⟨b, o, rfl, hbase, by simp; omega, fun j hj => by
     rw [World.cell?_alloc_lt _ _ _ (by simp; omega), World.cell?_alloc_lt _ _ _ hb, HC.out j om9, List.getD_eq_getElem?_getD, List.getD_eq_getElem?_getD, List.getElem?_take_of_lt hj]⟩⟩, by omega, hk, canon_take P (k + 1) HD.out (by rw [HL.out]; exact hk) (fun _ => by rw [Nat.add_sub_cancel, HX.out]; exact HN.out), val_zeros P (k + 1) (by rw [HL.out]; exact hk) (fun j h1 h2 => HZ.out j h1 (by rw [← HL.out]; exact h2)), by (repeat first | with_reducible exact Below.refl _ _ | (with_reducible refine Below.alloc ?_ ?_ _; rotate_left; exact (by first | omega | (simp; done))))⟩
end
section
theorem getD_set (l : List Int) (p q : Nat) (v : Int) (hp : p < l.length) : (l.set p v).getD q 0 = if p = q then v else l.getD q 0 := by
 rw [List.getD_eq_getElem?_getD, List.getD_eq_getElem?_getD, List.getElem?_set]
 by_cases h : p = q
 ·subst h; simp [hp]
 ·simp [h]
theorem digs_getD {P : List Int} (h : Digs P) (i : Nat) : 0 ≤ P.getD i 0 ∧ P.getD i 0 < 10000 := by
 rw [List.getD_eq_getElem?_getD]
 by_cases hi : i < P.length
 ·rw [List.getElem?_eq_getElem hi]
  exact h _ (List.getElem_mem hi)
 ·rw [List.getElem?_eq_none om9]
  exact ⟨Int.le_refl _, by show (0 : Int) < 10000; omega⟩
theorem val_take_succ (P : List Int) (i : Nat) (h : i < P.length) : val (P.take (i + 1)) = val (P.take i) + pw i * P.getD i 0 := by
 rw [List.take_succ_eq_append_getElem h, val_snoc, List.length_take, Nat.min_eq_left om9, List.getD_eq_getElem?_getD, List.getElem?_eq_getElem h]
 rfl
theorem val_replicate (k : Nat) : val (List.replicate k 0) = 0 := by
 induction k with
 | zero => rfl
 | succ k ih => show 0 + 10000 * val (List.replicate k 0) = 0; rw [ih]; rfl
theorem dig_mul {x y : Int} (h0 : 0 ≤ x) (h1 : x < 10000) (k0 : 0 ≤ y) (k1 : y < 10000) : 0 ≤ x * y ∧ x * y ≤ 100000000 := by
 refine ⟨Int.mul_nonneg h0 k0, ?_⟩
 have a := Int.mul_le_mul_of_nonneg_left (show y ≤ 10000 by omega) h0
 omega
def Conv (P Q O : List Int) (i k : Nat) : Prop :=
 O.length = P.length + Q.length + 1 ∧ val O = val (P.take i) * val Q + P.getD i 0 * (pw i * val (Q.take k)) ∧ ∀ p, 0 ≤ O.getD p 0 ∧ O.getD p 0 ≤ ((i * 16 + k : Nat) : Int) * 100000000
theorem conv_start (P Q : List Int) : Conv P Q (List.replicate (P.length + Q.length + 1) 0) 0 0 := by
 refine ⟨by simp, ?_, fun p => ?_⟩
 ·rw [val_replicate]; show (0 : Int) = 0 * val Q + P.getD 0 0 * (1 * 0); rw [Int.zero_mul, Int.mul_zero, Int.mul_zero]; rfl
 ·have : (List.replicate (P.length + Q.length + 1) (0 : Int)).getD p 0 = 0 := by
   rw [List.getD_eq_getElem?_getD]
   by_cases h : p < P.length + Q.length + 1
   ·rw [List.getElem?_replicate, if_pos h]; rfl
   ·rw [List.getElem?_eq_none (by simp; omega)]; rfl
  rw [this]
  omega
theorem conv_step {P Q O : List Int} {i k : Nat} (hP : Digs P) (hQ : Digs Q) (hi : i < P.length) (hk : k < Q.length) (h : Conv P Q O i k) :
  Conv P Q (O.set (i + k) (O.getD (i + k) 0 + P.getD i 0 * Q.getD k 0)) i (k + 1) := by
 obtain ⟨h1, h2, h3⟩ := h
 have hp := digs_getD hP i
 have hq := digs_getD hQ k
 have hm := dig_mul hp.1 hp.2 hq.1 hq.2
 refine ⟨by rw [List.length_set]; exact h1, ?_, fun p => ?_⟩
 ·rw [val_set _ _ _ om9, h2, val_take_succ Q k hk, pw_add, Int.mul_add, Int.mul_add, Int.add_assoc]
  congr 2
  simp only [Int.mul_assoc, Int.mul_comm, Int.mul_left_comm]
 ·rw [getD_set _ _ _ _ om9]
  have h4 := h3 p
  by_cases he : i + k = p
  ·rw [if_pos he, he]
   omega
  ·rw [if_neg he]
   omega
theorem conv_row {P Q O : List Int} {i : Nat} (hi : i < P.length) (hm : Q.length ≤ 16) (h : Conv P Q O i Q.length) : Conv P Q O (i + 1) 0 := by
 obtain ⟨h1, h2, h3⟩ := h
 refine ⟨h1, ?_, fun p => ?_⟩
 ·rw [h2, List.take_length, val_take_succ P i hi, List.take_zero, Int.add_mul]
  show _ = _ + P.getD (i + 1) 0 * (pw (i + 1) * 0)
  rw [Int.mul_zero, Int.mul_zero, Int.add_zero]
  congr 1
  simp only [Int.mul_assoc, Int.mul_comm, Int.mul_left_comm]
 ·have := h3 p
  omega
theorem conv_bound {P Q O : List Int} {i k : Nat} (hi : i ≤ 16) (hk : k ≤ 16) (h : Conv P Q O i k) (p : Nat) : 0 ≤ O.getD p 0 ∧ O.getD p 0 ≤ 30000000000 := by
 have := h.2.2 p
 omega
def Car (V : Int) (L : Nat) (O : List Int) (i : Nat) : Prop :=
 O.length = L ∧ val O = V ∧ (∀ p, p < i → 0 ≤ O.getD p 0 ∧ O.getD p 0 < 10000) ∧ ∀ p, 0 ≤ O.getD p 0 ∧ (O.getD p 0 ≤ 30000000000 ∨ (p = i ∧ O.getD p 0 ≤ 60000000000))
theorem car_start {P Q O : List Int} (hn : P.length ≤ 16) (hm : Q.length ≤ 16) (h : Conv P Q O P.length 0) : Car (val P * val Q) (P.length + Q.length + 1) O 0 := by
 refine ⟨h.1, ?_, fun p hp => by omega, fun p => ?_⟩
 ·rw [h.2.1, List.take_length, List.take_zero]
  show _ + P.getD P.length 0 * (pw P.length * 0) = _
  rw [Int.mul_zero, Int.mul_zero, Int.add_zero]
 ·have := conv_bound hn om9 h p
  exact ⟨this.1, .inl this.2⟩
theorem car_step {V : Int} {L i : Nat} {O : List Int} (hi : i + 1 < L) (h : Car V L O i) :
  Car V L ((O.set (i + 1) (O.getD (i + 1) 0 + O.getD i 0 / 10000)).set i (O.getD i 0 % 10000)) (i + 1) := by
 obtain ⟨h1, h2, h3, h4⟩ := h
 have ai := h4 i
 have aj := h4 (i + 1)
 have q0 : 0 ≤ O.getD i 0 / 10000 := Int.ediv_nonneg ai.1 de9
 have q1 : O.getD i 0 / 10000 ≤ 30000000000 := by omega
 have r0 := Int.emod_nonneg (O.getD i 0) (show (10000 : Int) ≠ 0 by decide)
 have r1 := Int.emod_lt_of_pos (O.getD i 0) (show (0 : Int) < 10000 by decide)
 have e := Int.mul_ediv_add_emod (O.getD i 0) 10000
 have hs : (O.set (i + 1) (O.getD (i + 1) 0 + O.getD i 0 / 10000)).getD i 0 = O.getD i 0 := by
  rw [getD_set _ _ _ _ om9, if_neg om9]
 refine ⟨by simp [h1], ?_, fun p hp => ?_, fun p => ?_⟩
 ·have v1 := val_set O (i + 1) (O.getD i 0 / 10000) om9
  have v2 := val_set (O.set (i + 1) (O.getD (i + 1) 0 + O.getD i 0 / 10000)) i (O.getD i 0 % 10000 - O.getD i 0) (by simp; omega)
  rw [hs, show O.getD i 0 + (O.getD i 0 % 10000 - O.getD i 0) = O.getD i 0 % 10000 by omega, v1, h2] at v2
  rw [v2, pw_succ, Int.mul_comm 10000, Int.mul_assoc, Int.add_assoc, ← Int.mul_add, show 10000 * (O.getD i 0 / 10000) + (O.getD i 0 % 10000 - O.getD i 0) = 0 by omega, Int.mul_zero, Int.add_zero]
 ·rw [getD_set _ _ _ _ (by simp; omega)]
  by_cases he : i = p
  ·rw [if_pos he]; exact ⟨r0, r1⟩
  ·rw [if_neg he, getD_set _ _ _ _ om9, if_neg om9]
   exact h3 p om9
 ·rw [getD_set _ _ _ _ (by simp; omega)]
  by_cases he : i = p
  ·rw [if_pos he]; exact ⟨r0, .inl om9⟩
  ·rw [if_neg he, getD_set _ _ _ _ om9]
   by_cases he2 : i + 1 = p
   ·rw [if_pos he2]
    refine ⟨by omega, .inr ⟨he2.symm, by omega⟩⟩
   ·rw [if_neg he2]
    have := h4 p
    refine ⟨this.1, .inl om9⟩
theorem car_end {P Q O : List Int} (hP : Digs P) (hQ : Digs Q) (h : Car (val P * val Q) (P.length + Q.length + 1) O (P.length + Q.length)) : Digs O ∧ val O = val P * val Q := by
 obtain ⟨h1, h2, h3, h4⟩ := h
 refine ⟨fun d hd => ?_, h2⟩
 have top : O.getD (P.length + Q.length) 0 < 10000 := by
  have ht := val_take_succ O (P.length + Q.length) om9
  rw [List.take_of_length_le om9, h2] at ht
  have hb := val_bound (l := O.take (P.length + Q.length)) (fun x hx => by
   obtain ⟨j, hj, rfl⟩ := List.mem_iff_getElem.1 hx
   have hj' : j < P.length + Q.length := by simp at hj; omega
   have := h3 j hj'
   rw [List.getD_eq_getElem?_getD, List.getElem?_eq_getElem om9] at this
   rw [List.getElem_take]
   exact this)
  have pb := val_bound hP
  have qb := val_bound hQ
  have k1 := Int.mul_le_mul_of_nonneg_left (show val Q ≤ pw Q.length by omega) pb.1
  have k2 := Int.mul_le_mul_of_nonneg_right (show val P ≤ pw P.length by omega) (show 0 ≤ pw Q.length by have := pw_pos Q.length; omega)
  rw [← pw_add] at k2
  have pp := pw_pos (P.length + Q.length)
  rcases Int.lt_or_le (O.getD (P.length + Q.length) 0) 2 with h5 | h5
  ·omega
  ·have k3 := Int.mul_le_mul_of_nonneg_left h5 (show 0 ≤ pw (P.length + Q.length) by omega)
   omega
 obtain ⟨j, hj, rfl⟩ := List.mem_iff_getElem.1 hd
 have e : O.getD j 0 = O[j] := by rw [List.getD_eq_getElem?_getD, List.getElem?_eq_getElem hj]; rfl
 rw [← e]
 rcases Nat.lt_or_ge j (P.length + Q.length) with h5 | h5
 ·exact h3 j h5
 ·rw [show j = P.length + Q.length by omega]
  exact ⟨(h4 _).1, top⟩
end
section
open Go.RowKit
def RowI (w : World) (y : Nat) (O : List Int) : Prop := w.heap[y]? = some (.cells (O.map (Value.int .i64)).toArray 3 (0, 0))
theorem RowI.cell {w : World} {y : Nat} {O : List Int} (h : RowI w y O) {p : Nat} (hp : p < O.length) : w.cell? ⟨y, p, none⟩ = some (.int .i64 (O.getD p 0)) := by
 rw [cell_of_row w y p _ _ _ h]
 simp [hp, List.getD]
theorem RowI.frozen {w : World} {y : Nat} {O : List Int} (h : RowI w y O) (p : Nat) : w.frozen? ⟨y, p, none⟩ = false := by
 unfold RowI at h
 simp [World.frozen?, h]
theorem RowI.store {w : World} {y : Nat} {O : List Int} (h : RowI w y O) (p : Nat) (v : Int) : RowI (w.setCell ⟨y, p, none⟩ (.int .i64 v)) y (O.set p v) := by
 unfold RowI at h ⊢
 simp [World.setCell, Array.getElem?_modify, h, List.map_set]
theorem heap_new_at {w : World} {o : Obj} {k : Nat} (h : w.heap.size = k) : (w.alloc o).heap[k]? = some o := by subst h; exact heap_alloc_new w o
theorem RowI.lt {w : World} {y : Nat} {O : List Int} (h : RowI w y O) : y < w.heap.size := by
 unfold RowI at h
 rcases Nat.lt_or_ge y w.heap.size with h1 | h1
 ·exact h1
 ·rw [Array.getElem?_eq_none h1] at h
  cases h
theorem RowI.isI {w : World} {y base : Nat} {O : List Int} (h : RowI w y O) (hb : base ≤ y) : IsI w base (some ⟨y, 0, none⟩) O.length O :=
 ⟨rfl, fun _ => ⟨y, 0, rfl, hb, h.lt, fun j hj => by rw [Nat.zero_add]; exact h.cell hj⟩⟩
structure TW (w wr : World) (x y : Nat) (s0 s1 sx : Value) (bx : Bool) : Prop where
 c0 : wr.cell? ⟨w.heap.size, 1, none⟩ = some s0
 c1 : wr.cell? ⟨w.heap.size + 1, 1, none⟩ = some s1
 cx : wr.cell? ⟨x, 0, none⟩ = some (.bool bx)
 cx1 : wr.cell? ⟨x, 1, none⟩ = some sx
 hx : w.heap.size + 2 < x
 hy : w.heap.size + 2 < y
 hxy : x ≠ y
 lx : x < wr.heap.size
 ly : y < wr.heap.size
 r0 : (wr.cell? ⟨w.heap.size + 1 + 1, 0, none⟩).isSome = true
 f0 : wr.frozen? ⟨w.heap.size + 1 + 1, 0, none⟩ = false
 r1 : (wr.cell? ⟨w.heap.size + 1 + 1, 1, none⟩).isSome = true
 f1 : wr.frozen? ⟨w.heap.size + 1 + 1, 1, none⟩ = false
 hB : Below w.heap.size w wr
theorem TW.drew {w wr : World} {x y : Nat} {s0 s1 sx : Value} {bx : Bool} (h : TW w wr x y s0 s1 sx bx) : TW w wr.drew x y s0 s1 sx bx :=
 ⟨h.c0, h.c1, h.cx, h.cx1, h.hx, h.hy, h.hxy, h.lx, h.ly, h.r0, h.f0, h.r1, h.f1, h.hB.drew⟩
theorem TW.store {w wr : World} {x y : Nat} {s0 s1 sx : Value} {bx : Bool} (h : TW w wr x y s0 s1 sx bx) (p : Nat) (v : Value) : TW w (wr.setCell ⟨y, p, none⟩ v) x y s0 s1 sx bx := by
 have hy := h.hy
 have ne : ∀ b o : Nat, b ≠ y → (⟨y, p, none⟩ : Addr) ≠ ⟨b, o, none⟩ := fun b o hb e => hb (by injection e with e; exact e.symm)
 refine ⟨?_, ?_, ?_, ?_, h.hx, hy, h.hxy, by rw [World.size_setCell]; exact h.lx, by rw [World.size_setCell]; exact h.ly, by rw [isSome_setCell]; exact h.r0, by rw [World.frozen?_setCell]; exact h.f0, by rw [isSome_setCell]; exact h.r1, by rw [World.frozen?_setCell]; exact h.f1, h.hB.setCell (by simp; omega) _⟩
 ·rw [World.cell?_setCell_other _ _ _ _ (ne _ _ om9)]; exact h.c0
 ·rw [World.cell?_setCell_other _ _ _ _ (ne _ _ om9)]; exact h.c1
 ·rw [World.cell?_setCell_other _ _ _ _ (ne _ _ h.hxy)]; exact h.cx
 ·rw [World.cell?_setCell_other _ _ _ _ (ne _ _ h.hxy)]; exact h.cx1
set_option maxHeartbeats 8000000 in
set_option maxRecDepth 100000 in
theorem times_any (na nb : Bool) (A B : Option Addr) (n m ca cb : Nat) (P Q : List Int) (w : World) (hI : IsI w 0 A n P) (hJ : IsI w 0 B m Q) (hn : n ≤ 16) (hm : m ≤ 16) (hP : Digs P) (hQ : Digs Q) :
  Calls Tryz.prog 88 #[.agg #[.bool na, .slice A n ca], .agg #[.bool nb, .slice B m cb]] w (fun e w' => ∃ O, val O = val P * val Q ∧ Digs O ∧ O.length ≤ 33 ∧ Trimmed w.heap.size (na != nb) (n + m + 1) O w e w') := by
 have HI := Lib.hid hI
 have HJ := Lib.hid hJ
 have HP := Lib.hid hP
 have HQ := Lib.hid hQ
 have LP := Lib.hid hI.1
 have LQ := Lib.hid hJ.1
 clear hI hJ hP hQ
 go_enter Tryz.func88, Tryz.ntmps88
 go_upto_region 1 with fail
 go_cut [5] (fun s5 wx => ∃ x y : Nat, s5 = .pointer (some ⟨x, 0, none⟩) ∧ TW w wx x y (.slice A n ca) (.slice B m cb) (.slice (some ⟨y, 0, none⟩) (n + m + 1) (n + m + 1)) (na != nb) ∧ RowI wx y (List.replicate (n + m + 1) 0))
 case first =>
  have hI0 : (Tryz.prog.info? 3).map (fun i => (i.zero, i.size, i.bytes)) = some (some (.int .i64 0), 1, 8) := by kernel_rfl
  obtain ⟨i0, hi, hz0, hz1, hz2⟩ := info_parts hI0
  obtain ⟨Z, hmk, hZ⟩ : ∃ Z : Array Value, (∀ W : World, (Instr.makeSlice 30 (.int .i64 ((n : Int) + m + 1)) (.int .i64 ((n : Int) + m + 1))).run Tryz.prog W = .ok (.slice (some ⟨W.heap.size, 0, none⟩) (n + m + 1) (n + m + 1)) (W.alloc (.cells Z 3))) ∧ Z = ((List.replicate (n + m + 1) 0).map (Value.int .i64)).toArray := by
   refine ⟨_, fun W => ?_, rfl⟩
   have := run_make W 30 3 i0 (.int .i64 0) Tryz.underlying30 hi hz0 .i64 .i64 ((n : Int) + m + 1) ((n : Int) + m + 1) om9 (Int.le_refl _) (by rw [hz2]; omega) om9
   rw [this, hz1, show ((n : Int) + m + 1).toNat = n + m + 1 by omega]
   have e : madeCells (Value.int .i64 0).cells ((n + m + 1) * 1) = ((List.replicate (n + m + 1) 0).map (Value.int .i64)).toArray := by
    apply Array.ext
    ·simp [madeCells]
    ·intro j h1 h2
     simp [madeCells, Value.cells, Nat.mod_one]
   rw [e]
  clear hi hz0 hz1 hz2 hI0
  have HZ := Lib.hid hZ
  clear hZ
  have W0 : IntKind.i64.wrap ((n : Int) + m) = n + m := IntWalk.i64_in _ om9
  have W1 : IntKind.i64.wrap ((n : Int) + m + 1) = n + m + 1 := IntWalk.i64_in _ om9
  go_region
  all_goals go_wp2_with fail
  all_goals go_meet
  ·refine ⟨w.heap.size + 1 + 1 + 1 + 1, w.heap.size + 1 + 1 + 1, rfl, ⟨(by go_simp), (by go_simp), (by go_simp; cases na <;> cases nb <;> rfl), (by go_simp), om9, om9, om9, (by simp), (by simp), (by go_simp), (by go_simp), (by go_simp), (by go_simp), (by (repeat first | with_reducible exact Below.refl _ _ | (with_reducible refine Below.alloc ?_ ?_ _; rotate_left; exact (by first | omega | (simp; done) | (simp; omega))) | with_reducible refine Below.drew ?_))⟩, ?_⟩
   unfold RowI
   rw [← HZ.out]
   exact (Below.heap_alloc _ _ _ (by simp)).trans (heap_new_at (by simp))
  ·refine ⟨w.heap.size + 1 + 1 + 1, w.heap.size + 1 + 1 + 1 + 1, rfl, ⟨(by go_simp), (by go_simp), (by go_simp; cases na <;> cases nb <;> rfl), (by go_simp), om9, om9, om9, (by simp), (by simp), (by go_simp), (by go_simp), (by go_simp), (by go_simp), (by (repeat first | with_reducible exact Below.refl _ _ | (with_reducible refine Below.alloc ?_ ?_ _; rotate_left; exact (by first | omega | (simp; done) | (simp; omega))) | with_reducible refine Below.drew ?_))⟩, ?_⟩
   unfold RowI
   rw [← HZ.out]
   exact heap_new_at (by simp)
 case rest =>
  obtain ⟨x, y, rfl, ht, hrow⟩ := hcut
  have HR := Lib.hid (show RowI wc y (List.replicate (n + m + 1) 0) ∧ Conv P Q (List.replicate (n + m + 1) 0) 0 0 from ⟨hrow, by have := conv_start P Q; rwa [LP.out, LQ.out] at this⟩)
  have HT := Lib.hid ht
  clear ht hrow
  go_wp2_with fail
  go_loopw [6, 7] (fun i _ wr => ∃ (j : Nat) (O : List Int), j ≤ n ∧ i = .int .i64 j ∧ TW w wr x y (.slice A n ca) (.slice B m cb) (.slice (some ⟨y, 0, none⟩) (n + m + 1) (n + m + 1)) (na != nb) ∧ RowI wr y O ∧ Conv P Q O j 0) (fun i _ _ => n - (intOf i).toNat)
  case atStart => exact ⟨0, _, Nat.zero_le _, rfl, HT.out, HR.out.1, HR.out.2⟩
  case round =>
   obtain ⟨j, O, hj, rfl, ht, hrow, hcv⟩ := hrel
   have t0 := ht.c0
   have t1 := ht.c1
   have t2 := ht.cx1
   by_cases hlt : j < n
   ·have HT1 := Lib.hid ht
    have HR1 := Lib.hid (And.intro hrow hcv)
    clear ht hrow hcv
    obtain ⟨wo, rfl⟩ : ∃ wo : World, wo = wr := ⟨_, rfl⟩
    go_wp2_with fail
    go_loopw [7] (fun k wr => ∃ (l : Nat) (O : List Int), l ≤ m ∧ k = .int .i64 l ∧ TW w wr x y (.slice A n ca) (.slice B m cb) (.slice (some ⟨y, 0, none⟩) (n + m + 1) (n + m + 1)) (na != nb) ∧ RowI wr y O ∧ Conv P Q O j l) (fun k _ => m - (intOf k).toNat)
    case atStart => exact ⟨0, _, Nat.zero_le _, rfl, HT1.out, HR1.out.1, HR1.out.2⟩
    case round =>
     obtain ⟨l, O, hl, rfl, ht, hrow, hcv⟩ := hrel
     have t0 := ht.c0
     have t1 := ht.c1
     have t2 := ht.cx1
     by_cases hlt2 : l < m
     ·obtain ⟨a, ao, rfl, _, ha, hcP⟩ := HI.out.2 om9
      obtain ⟨b, bo, rfl, _, hb, hcQ⟩ := HJ.out.2 om9
      have p0 := (ht.hB.cell (p := ⟨a, ao + j, none⟩) ha).trans (hcP j hlt)
      have q0 := (ht.hB.cell (p := ⟨b, bo + l, none⟩) hb).trans (hcQ l hlt2)
      have hlO : O.length = n + m + 1 := by rw [hcv.1, LP.out, LQ.out]
      have o0 := hrow.cell (p := j + l) om9
      have of0 := hrow.frozen (j + l)
      have ly := ht.ly
      have cs := conv_step HP.out HQ.out (by rw [LP.out]; exact hlt) (by rw [LQ.out]; exact hlt2) hcv
      have bo' := conv_bound om9 om9 hcv (j + l)
      have bp := digs_getD HP.out j
      have bq := digs_getD HQ.out l
      have bm := dig_mul bp.1 bp.2 bq.1 bq.2
      clear hcP hcQ hcv
      generalize P.getD j 0 = dp at *
      generalize Q.getD l 0 = dq at *
      generalize O.getD (j + l) 0 = d0 at *
      have HCS := Lib.hid cs
      have HT3 := Lib.hid ht
      have HR3 := Lib.hid hrow
      have HLO := Lib.hid hlO
      clear cs ht hrow hlO
      obtain ⟨bo1, bo2⟩ := bo'
      obtain ⟨bm1, bm2⟩ := bm
      have j0 : (0 : Int) ≤ j := by omega
      have j1 : (j : Int) < n := by omega
      have l0 : (0 : Int) ≤ l := by omega
      have l1 : (l : Int) < m := by omega
      go_wp2_with fail
      have X0 : IntKind.i64.wrap ((j : Int) + l) = j + l := IntWalk.i64_in _ om9
      have X1 : IntKind.i64.wrap (dp * dq) = dp * dq := IntWalk.i64_in _ om9
      have X2 : IntKind.i64.wrap (d0 + dp * dq) = d0 + dp * dq := IntWalk.i64_in _ om9
      have X3 : ((j : Int) + l).toNat = j + l := by omega
      have X4 : (0 : Int) ≤ (j : Int) + l := by omega
      have X5 : (j : Int) + l < n + m + 1 := by omega
      go_still_tail 25, kr9
      change wpList _ _ _ _ _ wr.drew
      go_wp2
      go_roundw
      case rel => exact ⟨l + 1, _, by omega, by go_num, (HT3.out.drew).store _ _, RowI.store (w := wr.drew) HR3.out _ _, HCS.out⟩
      case measure => simp [intOf]; omega
     ·have hlm : l = m := by omega
      subst hlm
      have HCV := Lib.hid (conv_row (by rw [LP.out]; exact hlt) (by rw [LQ.out]; exact hm) (by rw [LQ.out]; exact hcv))
      have HT2 := Lib.hid ht
      have HR2 := Lib.hid hrow
      clear ht hrow hcv
      go_wp2
      go_roundw
      case rel => exact ⟨j + 1, O, by omega, by go_num, HT2.out, HR2.out, HCV.out⟩
      case measure => simp [intOf]; omega
   ·have hjn : j = n := by omega
    subst hjn
    have HC := Lib.hid (car_start (by rw [LP.out]; exact hn) (by rw [LQ.out]; exact hm) (by rw [LP.out]; exact hcv))
    have HT4 := Lib.hid ht
    have HR4 := Lib.hid hrow
    clear ht hrow hcv
    obtain ⟨wo, rfl⟩ : ∃ wo : World, wo = wr := ⟨_, rfl⟩
    go_wp2_with fail
    go_loopw [8] (fun i wr => ∃ (c : Nat) (O : List Int), c < j + m + 1 ∧ i = .int .i64 c ∧ TW w wr x y (.slice A j ca) (.slice B m cb) (.slice (some ⟨y, 0, none⟩) (j + m + 1) (j + m + 1)) (na != nb) ∧ RowI wr y O ∧ Car (val P * val Q) (j + m + 1) O c) (fun i _ => j + m + 1 - (intOf i).toNat)
    case atStart => exact ⟨0, _, by omega, rfl, HT4.out, HR4.out, (by have := HC.out; rwa [LP.out, LQ.out] at this)⟩
    case round =>
     obtain ⟨c, O, hc, rfl, ht, hrow, hcr⟩ := hrel
     have t2 := ht.cx1
     by_cases hlt3 : c + 1 < j + m + 1
     ·have hlO : O.length = j + m + 1 := hcr.1
      have o0 := hrow.cell (p := c) om9
      have o1 := hrow.cell (p := c + 1) om9
      have of0 := hrow.frozen c
      have of1 := hrow.frozen (c + 1)
      have ly := ht.ly
      have hxy := ht.hxy
      have cs := car_step hlt3 hcr
      obtain ⟨b1, b2⟩ := hcr.2.2.2 c
      obtain ⟨b3, b4⟩ := hcr.2.2.2 (c + 1)
      clear hcr
      generalize hd0 : O.getD c 0 = d0 at *
      have HD0 := Lib.hid hd0
      clear hd0
      generalize O.getD (c + 1) 0 = d1 at *
      have b2' : d0 ≤ 60000000000 := by omega
      have b4' : d1 ≤ 60000000000 := by omega
      have b5 : 0 ≤ d0 / 10000 := Int.ediv_nonneg b1 de9
      have b6 : d0 / 10000 ≤ 60000000000 := by omega
      have hl : Hid (O.length = j + m + 1) := Lib.hid hlO
      have HCS := Lib.hid cs
      have HT5 := Lib.hid ht
      have HR5 := Lib.hid hrow
      clear cs ht hrow b2 b4 hlO
      have c0 : (0 : Int) ≤ c := by omega
      have c1 : (c : Int) + 1 < j + m + 1 := by omega
      have c2 : (c : Int) < j + m + 1 := by omega
      go_wp2_with fail
      have X0 : IntKind.i64.wrap ((c : Int) + 1) = c + 1 := IntWalk.i64_in _ om9
      have X2 : IntKind.i64.wrap (d1 + d0 / 10000) = d1 + d0 / 10000 := IntWalk.i64_in _ om9
      have X3 : ((c : Int) + 1).toNat = c + 1 := by omega
      have X4 : (0 : Int) ≤ (c : Int) + 1 := by omega
      have X5 : d0.tdiv 10000 = d0 / 10000 := Int.tdiv_eq_ediv_of_nonneg b1
      have X6 : IntKind.i64.wrap (d0 / 10000) = d0 / 10000 := IntWalk.i64_in _ om9
      have X7 : d0.tmod 10000 = d0 % 10000 := Int.tmod_eq_emod_of_nonneg b1
      go_still_tail 18, kr9
      change wpList _ _ _ _ _ wr.drew
      go_wp2_with fail
      have HT6 := Lib.hid ((HT5.out.store (c + 1) (.int .i64 (d1 + d0 / 10000))).drew)
      have HR6 := Lib.hid (show RowI (wr.setCell ⟨y, c + 1, none⟩ (.int .i64 (d1 + d0 / 10000))).drew y (O.set (c + 1) (d1 + d0 / 10000)) from RowI.store HR5.out _ _)
      clear o0 o1 of0 of1 t2 HT5 HR5
      generalize (wr.setCell ⟨y, c + 1, none⟩ (.int .i64 (d1 + d0 / 10000))).drew = w5 at *
      have t2 := HT6.out.cx1
      have ly := HT6.out.ly
      have o0 : w5.cell? ⟨y, c, none⟩ = some (.int .i64 d0) := by
       have h := HR6.out.cell (p := c) (by rw [List.length_set, hl.out]; omega)
       rwa [getD_set _ _ _ _ (by rw [hl.out]; omega), if_neg om9, HD0.out] at h
      have of0 := HR6.out.frozen c
      go_still_tail 10, kr9
      change wpList _ _ _ _ _ w5.drew
      go_wp2
      go_roundw
      case rel => exact ⟨c + 1, _, hlt3, by go_num, HT6.out.drew.store _ _, RowI.store (w := w5.drew) HR6.out _ _, HCS.out⟩
      case measure => simp [intOf]; omega
     ·have hcm : c = j + m := by omega
      subst hcm
      have hend := car_end HP.out HQ.out (by rw [LP.out, LQ.out]; exact hcr)
      have HE := Lib.hid hend
      have HLO := Lib.hid hcr.1
      have HRI := Lib.hid (hrow.isI (base := w.heap.size + 1 + 1 + 1) (by have := ht.hy; omega))
      have t3 := ht.cx
      have r0 := ht.r0
      have f0 := ht.f0
      have r1 := ht.r1
      have f1 := ht.f1
      have hB := ht.hB
      have hsz := hB.size
      have hx := ht.hx
      have lx := ht.lx
      clear ht hrow hcr hend
      go_wp2_with fail
      refine (trim_any (w.heap.size + 1 + 1 + 1) (na != nb) _ (j + m + 1) (j + m + 1) O _ (by have := HRI.out; rwa [HLO.out] at this) (Nat.le_refl _) om9 HE.out.1).mono ?_
      rintro e w1 ⟨A', k', cap', rfl, hI', q1, q2, q3, q4, hb⟩
      have HI' := Lib.hid hI'
      have H3 := Lib.hid q3
      have H4 := Lib.hid q4
      have g0 := (congrArg Option.isSome (hb.cell (p := ⟨w.heap.size + 1 + 1, 0, none⟩) (by simp; omega))).trans r0
      have g1 := (congrArg Option.isSome (hb.cell (p := ⟨w.heap.size + 1 + 1, 1, none⟩) (by simp; omega))).trans r1
      have g2 := (hb.frozen (p := ⟨w.heap.size + 1 + 1, 0, none⟩) (by simp; omega)).trans f0
      have g3 := (hb.frozen (p := ⟨w.heap.size + 1 + 1, 1, none⟩) (by simp; omega)).trans f1
      have hB1 : Below w.heap.size w w1 := hB.trans (hb.mono hsz)
      obtain ⟨z0, g0⟩ := Option.isSome_iff_exists.1 g0
      obtain ⟨z1, g1⟩ := Option.isSome_iff_exists.1 g1
      clear hI' q3 q4 hb r0 r1
      go_wp2
      exact bodyPost_ret (res2b Tryz.results88 _ _ _ _ _ rfl (by (try simp only [isSome_setCell]); first | assumption | go_simp) (by (try simp only [isSome_setCell]); first | assumption | go_simp)) rfl ⟨O, HE.out.2, HE.out.1, by rw [HLO.out]; omega, A', k', cap', rfl, ((HI'.out.setCell (by simp) _).setCell (by simp) _).mono om9, q1, q2, H3.out, H4.out, by (repeat first | with_reducible assumption | (with_reducible refine Below.setCell ?_ ?_ _; rotate_left; exact (by (simp; omega))))⟩
end
end Go.Proofs.YthggkidiidnaoaaGreat
