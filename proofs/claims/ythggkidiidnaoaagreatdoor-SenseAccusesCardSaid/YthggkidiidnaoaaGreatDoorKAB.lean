import Derived.Test.YthggkidiidnaoaaGreatDoorKAA
import Derived.Deep.RegionHeld3
import Derived.Laws.AppendOwn
import Derived.Laws.AppendOwnNone
import Derived.WalkKit
import Derived.Lib.Hide
import Derived.WalkSpells
import Derived.WalkLawsBesides
namespace Go.Proofs.YthggkidiidnaoaaGreatDoor
set_option linter.unusedVariables false
set_option linter.unusedSimpArgs false
section
open Go.RowKit
set_option maxHeartbeats 400000 in
theorem within_any (n : Int) (w : World) :
  Calls Tryz.prog 139 #[.int .i64 n] w fun e w' => e = .returned (.bool (inR n)) ∧ w = w' := by
 go_enter Tryz.func139, Tryz.ntmps139
 go_wp2
 all_goals go_ret
 all_goals (simp [inR]; try omega)
set_option maxHeartbeats 400000 in
theorem rvalid_any (lo hi : Int) (w : World) :
  Calls Tryz.prog 93 #[Sp lo hi] w (Ret (.bool (vld lo hi)) w) := by
 go_enter Tryz.func93, Tryz.ntmps93
 go_wp2_with (go_at_call 139; refine (within_any _ _).mono ?_; rintro e w' ⟨rfl, rfl⟩)
 all_goals go_ret
 all_goals exact ⟨by simp [vld, *] <;> omega, by (repeat first | with_reducible exact Below.refl _ _ | (with_reducible refine Below.alloc ?_ ?_ _; rotate_left; exact (by omega)))⟩
def meetL (a b c d : Int) : Int × Int × Int := if (vld a b && vld c d) = true then (if max a c ≤ min b d then (max a c, min b d, 0) else (0, 0, 8)) else (0, 0, 1)
end
section
def val : List Int → Int
 | [] => 0
 | d :: r => d + 10000 * val r
def pw : Nat → Int
 | 0 => 1
 | n + 1 => 10000 * pw n
def Digs (l : List Int) : Prop := ∀ d ∈ l, 0 ≤ d ∧ d < 10000
def Canon (l : List Int) : Prop := Digs l ∧ ∀ d, l.getLast? = some d → d ≠ 0
theorem pw_pos (n : Nat) : 1 ≤ pw n := by
 induction n with
 | zero => exact Int.le_refl _
 | succ n ih => show 1 ≤ 10000 * pw n; omega
theorem pw_add (m n : Nat) : pw (m + n) = pw m * pw n := by
 induction m with
 | zero => rw [Nat.zero_add]; show _ = 1 * _; rw [Int.one_mul]
 | succ m ih => rw [Nat.succ_add]; show 10000 * pw (m + n) = 10000 * pw m * pw n; rw [ih, Int.mul_assoc]
theorem pw_succ (n : Nat) : pw (n + 1) = 10000 * pw n := rfl
theorem pw_mono {m n : Nat} (h : m ≤ n) : pw m ≤ pw n := by
 induction n with
 | zero => rw [Nat.le_zero.1 h]; exact Int.le_refl _
 | succ n ih =>
  rcases Nat.lt_or_ge m (n + 1) with h1 | h1
  ·have := ih (by omega)
   have := pw_pos n
   rw [pw_succ]; omega
  ·rw [show m = n + 1 by omega]; exact Int.le_refl _
theorem val_append (l k : List Int) : val (l ++ k) = val l + pw l.length * val k := by
 induction l with
 | nil => show val k = 0 + 1 * val k; omega
 | cons d l ih =>
  show d + 10000 * val (l ++ k) = d + 10000 * val l + 10000 * pw l.length * val k
  rw [ih, Int.mul_add, Int.mul_assoc, Int.add_assoc]
theorem val_snoc (l : List Int) (d : Int) : val (l ++ [d]) = val l + pw l.length * d := by
 rw [val_append]
 show _ + _ * (d + 10000 * 0) = _
 rw [Int.mul_zero, Int.add_zero]
theorem Digs.snoc {l : List Int} {d : Int} (h : Digs l) (h0 : 0 ≤ d) (h1 : d < 10000) : Digs (l ++ [d]) := fun x hx => by
 rcases List.mem_append.1 hx with hx | hx
 ·exact h x hx
 ·rw [List.mem_singleton.1 hx]; exact ⟨h0, h1⟩
theorem Digs.tail {d : Int} {l : List Int} (h : Digs (d :: l)) : (0 ≤ d ∧ d < 10000) ∧ Digs l := ⟨h d (List.mem_cons_self ..), fun x hx => h x (List.mem_cons_of_mem _ hx)⟩
theorem val_bound {l : List Int} (h : Digs l) : 0 ≤ val l ∧ val l < pw l.length := by
 induction l with
 | nil => exact ⟨Int.le_refl _, by show (0 : Int) < 1; omega⟩
 | cons d l ih =>
  obtain ⟨hd, hl⟩ := h.tail
  have := ih hl
  show 0 ≤ d + 10000 * val l ∧ d + 10000 * val l < 10000 * pw l.length
  omega
theorem canon_low {l : List Int} (h : Canon l) (hne : l ≠ []) : pw (l.length - 1) ≤ val l := by
 have hd : Digs l.dropLast := fun x hx => h.1 x ((List.dropLast_sublist l).subset hx)
 have hb := val_bound hd
 have hl := h.1 (l.getLast hne) (List.getLast_mem hne)
 have h0 := h.2 (l.getLast hne) (List.getLast?_eq_some_getLast hne)
 have e := val_snoc l.dropLast (l.getLast hne)
 rw [List.dropLast_concat_getLast hne, List.length_dropLast] at e
 have hp := pw_pos (l.length - 1)
 have := Int.mul_le_mul_of_nonneg_left (show 1 ≤ l.getLast hne by omega) (show (0 : Int) ≤ pw (l.length - 1) by omega)
 omega
theorem canon_nil {l : List Int} (h : Canon l) : val l = 0 ↔ l = [] := by
 constructor
 ·intro h0
  rcases List.eq_nil_or_concat l with h1 | ⟨k, d, rfl⟩
  ·exact h1
  ·have h2 := canon_low h (by simp)
   have h3 := pw_pos ((k.concat d).length - 1)
   omega
 ·rintro rfl; rfl
theorem val_set (l : List Int) (p : Nat) (v : Int) (hp : p < l.length) : val (l.set p (l.getD p 0 + v)) = val l + pw p * v := by
 induction l generalizing p with
 | nil => simp at hp
 | cons d l ih =>
  cases p with
  | zero => show (d + v) + 10000 * val l = d + 10000 * val l + 1 * v; omega
  | succ p =>
   have := ih p (by simpa using hp)
   show d + 10000 * val (l.set p (l.getD p 0 + v)) = d + 10000 * val l + 10000 * pw p * v
   rw [this, Int.mul_add, Int.mul_assoc, Int.add_assoc]
theorem len_le_of_val {l : List Int} (h : Canon l) {n : Nat} (hv : val l < pw n) : l.length ≤ n := by
 rcases Nat.lt_or_ge n l.length with h1 | h1
 ·have hne : l ≠ [] := by intro e; rw [e] at h1; simp at h1
  have h2 := canon_low h hne
  have h3 := pw_mono (show n ≤ l.length - 1 by omega)
  omega
 ·exact h1
theorem neg_tmod (m : Int) (h : 0 ≤ m) : (-m).tmod 10000 = -(m % 10000) := by rw [Int.neg_tmod, Int.tmod_eq_emod_of_nonneg h]
theorem neg_tdiv (m : Int) (h : 0 ≤ m) : (-m).tdiv 10000 = -(m / 10000) := by rw [Int.neg_tdiv, Int.tdiv_eq_ediv_of_nonneg h]
def Taken (z m : Int) (l : List Int) : Prop := z = val l + pw l.length * m ∧ Digs l ∧ (m = 0 → ∀ d, l.getLast? = some d → d ≠ 0) ∧ (0 < m → pw l.length * m ≤ z)
theorem taken_start (z : Int) (h : 0 ≤ z) : Taken z z [] := ⟨by show z = 0 + 1 * z; omega, fun d h => (by cases h), fun _ d h => (by cases h), fun _ => (by show 1 * z ≤ z; omega)⟩
theorem taken_step {z m : Int} {l : List Int} (h : Taken z m l) (hm : 0 < m) : Taken z (m / 10000) (l ++ [m % 10000]) := by
 obtain ⟨h1, h2, h3, h4⟩ := h
 have e : m = 10000 * (m / 10000) + m % 10000 := (Int.mul_ediv_add_emod m 10000).symm
 have k0 := Int.emod_nonneg m (show (10000 : Int) ≠ 0 by decide)
 have k1 := Int.emod_lt_of_pos m (show (0 : Int) < 10000 by decide)
 refine ⟨?_, h2.snoc k0 k1, fun h0 d hd => ?_, fun _ => ?_⟩
 ·rw [val_snoc, List.length_append, List.length_singleton, pw_succ, h1, Int.add_assoc]
  congr 1
  conv => lhs; rw [e]
  rw [Int.mul_add, ← Int.mul_assoc, Int.mul_comm (pw l.length) 10000]
  omega
 ·rw [List.getLast?_concat] at hd
  have : d = m % 10000 := by simpa using hd.symm
  omega
 ·have h5 := val_bound (h2.snoc k0 k1)
  rw [List.length_append, List.length_singleton, pw_succ]
  have hv := val_bound h2
  have : pw l.length * m = 10000 * pw l.length * (m / 10000) + pw l.length * (m % 10000) := by
   conv => lhs; rw [e]
   rw [Int.mul_add, ← Int.mul_assoc, Int.mul_comm (pw l.length) 10000]
  have h6 := Int.mul_nonneg (show 0 ≤ pw l.length by have := pw_pos l.length; omega) k0
  omega
theorem taken_end {z : Int} {l : List Int} (h : Taken z 0 l) : Canon l ∧ val l = z := by
 obtain ⟨h1, h2, h3, _⟩ := h
 rw [Int.mul_zero, Int.add_zero] at h1
 exact ⟨⟨h2, h3 rfl⟩, h1.symm⟩
theorem pw_five : pw 5 = 100000000000000000000 := by decide
theorem taken_len {z m : Int} {l : List Int} (h : Taken z m l) (hm : 0 < m) (hz : z ≤ 9223372036854775808) : l.length < 5 := by
 have h4 := h.2.2.2 hm
 rcases Nat.lt_or_ge l.length 5 with h5 | h5
 ·exact h5
 ·have h6 := pw_mono h5
  rw [pw_five] at h6
  have := Int.mul_le_mul_of_nonneg_left (show 1 ≤ m by omega) (show 0 ≤ pw l.length by omega)
  omega
end
section
open Go.RowKit
def IsI (w : World) (base : Nat) (A : Option Addr) (n : Nat) (P : List Int) : Prop :=
 P.length = n ∧ (0 < n → ∃ b o : Nat, A = some ⟨b, o, none⟩ ∧ base ≤ b ∧ b < w.heap.size ∧ ∀ j, j < n → w.cell? ⟨b, o + j, none⟩ = some (.int .i64 (P.getD j 0)))
theorem IsI.below {w w1 : World} {base n : Nat} {A : Option Addr} {P : List Int} (h : IsI w base A n P) (hb : Below w.heap.size w w1) : IsI w1 base A n P :=
 ⟨h.1, fun h0 => by
  obtain ⟨b, o, e, h1, h2, h3⟩ := h.2 h0
  exact ⟨b, o, e, h1, Nat.lt_of_lt_of_le h2 hb.size, fun j hj => (hb.cell (p := ⟨b, _, none⟩) h2).trans (h3 j hj)⟩⟩
theorem IsI.setCell {w : World} {base n : Nat} {A : Option Addr} {P : List Int} (h : IsI w base A n P) {p : Addr} (hp : p.block < base) (v : Value) : IsI (w.setCell p v) base A n P :=
 ⟨h.1, fun h0 => by
  obtain ⟨b, o, e, h1, h2, h3⟩ := h.2 h0
  refine ⟨b, o, e, h1, by rw [World.size_setCell]; exact h2, fun j hj => ?_⟩
  rw [World.cell?_setCell_other _ _ _ _ (by intro e; subst e; simp at hp; omega)]
  exact h3 j hj⟩
theorem IsI.mono {w : World} {base base' n : Nat} {A : Option Addr} {P : List Int} (h : IsI w base A n P) (hb : base' ≤ base) : IsI w base' A n P :=
 ⟨h.1, fun h0 => by
  obtain ⟨b, o, e, h1, h2, h3⟩ := h.2 h0
  exact ⟨b, o, e, Nat.le_trans hb h1, h2, h3⟩⟩
theorem isI_of_own {w : World} {base n : Nat} {e : TypeId} {v : Value} {P : List Int} (h : w.ownsRow base e 1 v n (P.map (Value.int .i64))) : ∃ A cap, v = .slice A n cap ∧ n ≤ cap ∧ IsI w base A n P := by
 obtain ⟨hl, h⟩ := h
 have hn : P.length = n := by simpa using hl
 rcases h with ⟨rfl, rfl⟩ | ⟨g, cap, cur, rfl, hg, hh, hc, hm, hz, ht⟩
 ·exact ⟨none, 0, rfl, Nat.le_refl _, hn, fun h => absurd h (by omega)⟩
 ·have hlt : g < w.heap.size := by
   rcases Nat.lt_or_ge g w.heap.size with h | h
   ·exact h
   ·rw [Array.getElem?_eq_none h] at hh; cases hh
  refine ⟨_, cap, rfl, hc, hn, fun h0 => ⟨g, 0, rfl, hg, hlt, fun j hj => ?_⟩⟩
  rw [cell_of_row w g (0 + j) cur e (0, 0) hh, ← Array.getElem?_toList]
  have h1 : (cur.toList.take (n * 1))[j]? = (P.map (Value.int .i64))[j]? := by rw [ht]
  rw [List.getElem?_take_of_lt (by omega)] at h1
  rw [Nat.zero_add, h1, List.getElem?_map, List.getD_eq_getElem?_getD]
  have hjz : j < P.length := by omega
  simp [hjz]
def BigV (w : World) (v : Value) (z : Int) : Prop :=
 ∃ (A : Option Addr) (n cap : Nat) (P : List Int), v = .agg #[.bool (decide (z < 0)), .slice A n cap] ∧ IsI w 0 A n P ∧ n ≤ cap ∧ n ≤ 64 ∧ Canon P ∧ val P = max z (-z)
theorem BigV.below {w w1 : World} {v : Value} {z : Int} (h : BigV w v z) (hb : Below w.heap.size w w1) : BigV w1 v z := by
 obtain ⟨A, n, cap, P, h1, h2, h3⟩ := h
 exact ⟨A, n, cap, P, h1, h2.below hb, h3⟩
def BigB (w : World) (base : Nat) (v : Value) (z : Int) : Prop :=
 ∃ (A : Option Addr) (n cap : Nat) (P : List Int), v = .agg #[.bool (decide (z < 0)), .slice A n cap] ∧ IsI w base A n P ∧ n ≤ cap ∧ n ≤ 64 ∧ Canon P ∧ val P = max z (-z)
theorem BigB.big {w : World} {base : Nat} {v : Value} {z : Int} (h : BigB w base v z) : BigV w v z := by
 obtain ⟨A, n, cap, P, h1, h2, h3⟩ := h
 exact ⟨A, n, cap, P, h1, h2.mono (Nat.zero_le _), h3⟩
theorem BigB.below {w w1 : World} {base : Nat} {v : Value} {z : Int} (h : BigB w base v z) (hb : Below w.heap.size w w1) : BigB w1 base v z := by
 obtain ⟨A, n, cap, P, h1, h2, h3⟩ := h
 exact ⟨A, n, cap, P, h1, h2.below hb, h3⟩
theorem BigB.mono {w : World} {base base' : Nat} {v : Value} {z : Int} (h : BigB w base v z) (hb : base' ≤ base) : BigB w base' v z := by
 obtain ⟨A, n, cap, P, h1, h2, h3⟩ := h
 exact ⟨A, n, cap, P, h1, h2.mono hb, h3⟩
theorem BigB.setCell {w : World} {base : Nat} {v : Value} {z : Int} (h : BigB w base v z) {p : Addr} (hp : p.block < base) (u : Value) : BigB (w.setCell p u) base v z := by
 obtain ⟨A, n, cap, P, h1, h2, h3⟩ := h
 exact ⟨A, n, cap, P, h1, h2.setCell hp u, h3⟩
def RetNew (base : Nat) (z : Int) (w : World) (e : Ending) (w' : World) : Prop := ∃ v, e = .returned v ∧ BigB w' base v z ∧ Below w.heap.size w w'
def RetBig (z : Int) (w : World) (e : Ending) (w' : World) : Prop := ∃ v, e = .returned v ∧ BigV w' v z ∧ Below w.heap.size w w'
theorem below_grownB {B : Nat} {w0 w w1 : World} {e : TypeId} {v : Value} {n : Nat} {xs : List Value} (h : Below B w0 w) (hown : w.ownsRow B e 1 v n xs) (hg : w.grownBy w1 v.ownBlock) (hB : B ≤ w.heap.size) : Below B w0 w1 := by
 refine h.grown hg hB (fun k hk => ?_)
 rcases hown.2 with ⟨rfl, _⟩ | ⟨g, cap, cur, rfl, hb, _⟩
 ·simp [Value.ownBlock] at hk
 ·simp [Value.ownBlock] at hk
  omega
theorem append_int {ops : Array Oper} {rest : List Oper} {o : Oper} {a : Act} {Q : Exit → Act → World → Prop} {w : World} (hgd : o.guard = none) (s x : Operand)
  (ho : o.op = .call { callee := .builtin .append, args := #[s, x], argTypes := #[30, 30] })
  (base : Nat) (v : Value) (n : Nat) (xs : List Value) (hs : a.eval s = v) (hown : w.ownsRow base 3 1 v n xs)
  (k : Int) (hx : a.eval x = .slice (some ⟨w.heap.size, 0, none⟩) 1 1) (hb : n + 1 ≤ 4194304) (hbase : base ≤ w.heap.size)
  (h : ∀ (A' : Option Addr) (cap' : Nat) w', w'.ownsRow base 3 1 (.slice A' (n + 1) cap') (n + 1) (xs ++ [.int .i64 k]) → Below base w w' → wpList Tryz.prog ops Q rest (a.put o.dst (.slice A' (n + 1) cap')) w') : wpList Tryz.prog ops Q (o :: rest) a (w.alloc (.cells #[.int .i64 k] 3)) := by
 have hI0 : (Tryz.prog.info? 3).map (fun i => (i.zero, i.size, i.bytes)) = some (some (.int .i64 0), 1, 8) := by kernel_rfl
 obtain ⟨i0, hi, hz0, hz1, hz2⟩ := info_parts hI0
 refine wpList_append_own _ hgd s x 30 ho base 3 i0 (.int .i64 0) 1 8 Tryz.underlying30 hi hz0 hz1 hz2 rfl (by decide) v n xs hs (hown.alloc _) ⟨w.heap.size, 0, none⟩ 1 1 [.int .i64 k] hx rfl (fun j u hu => ?_) (fun u hu => ?_) (by unfold maxLen; omega) (by omega) (by simp; omega) (fun v' w' h5 h6 _ => by
  have hb' := below_grownB ((Below.refl _ _).alloc hbase _) (hown.alloc _) h6 (by simp; omega)
  obtain ⟨A', cap', rfl⟩ : ∃ A' cap', v' = .slice A' (n + 1) cap' := by
   rcases h5.2 with ⟨_, h0⟩ | ⟨g, cap, cur, rfl, _⟩
   ·omega
   ·exact ⟨_, _, rfl⟩
  exact h A' cap' w' h5 hb')
 ·rcases j with _ | j
  ·simp at hu
   subst hu
   simp [Addr.add, go_sem]
  ·simp at hu
 ·simp at hu
  subst hu
  rfl
theorem res2b {fn : Func} {p : Tmp} (h : fn.results = #[.cell p 158]) (tmps : Array Value) (W : World) (b : Nat) (x y : Value)
  (hp : tmps.getD p undef = .pointer (some ⟨b, 0, none⟩)) (h0 : (W.cell? ⟨b, 0, none⟩).isSome = true) (h1 : (W.cell? ⟨b, 1, none⟩).isSome = true) :
  (results fn tmps).run Tryz.prog ((W.setCell ⟨b, 0, none⟩ x).setCell ⟨b, 1, none⟩ y) = .ok (.agg #[x, y]) ((W.setCell ⟨b, 0, none⟩ x).setCell ⟨b, 1, none⟩ y) := by
 have n1 : (⟨b, 1, none⟩ : Addr) ≠ ⟨b, 0, none⟩ := by simp
 have n0 : (⟨b, 0, none⟩ : Addr) ≠ ⟨b, 1, none⟩ := by simp
 have e1 : ((W.setCell ⟨b, 0, none⟩ x).setCell ⟨b, 1, none⟩ y).cell? ⟨b, 0, none⟩ = some x :=
  (World.cell?_setCell_other _ _ _ _ n1).trans (World.cell?_setCell_same' _ _ _ h0)
 have e2 : ((W.setCell ⟨b, 0, none⟩ x).setCell ⟨b, 1, none⟩ y).cell? ⟨b, 1, none⟩ = some y :=
  World.cell?_setCell_same' _ _ _ (by rw [World.cell?_setCell_other _ _ _ _ n0]; exact h1)
 have hp' : tmps[p]?.getD undef = .pointer (some ⟨b, 0, none⟩) := by simpa using hp
 simp only [results, h]
 simp [Sem.run_bind, Result.andThen, go_sem, hp', e1, e2]
theorem own_setCell {w : World} {base n : Nat} {e : TypeId} {v : Value} {xs : List Value} (h : w.ownsRow base e 1 v n xs) {p : Addr} (hp : p.block < base) (u : Value) : (w.setCell p u).ownsRow base e 1 v n xs := by
 refine ⟨h.1, ?_⟩
 rcases h.2 with h0 | ⟨g, cap, cur, h1, h2, h3, h4⟩
 ·exact .inl h0
 ·exact .inr ⟨g, cap, cur, h1, h2, (Below.heap_setCell _ _ _ _ (by omega)).trans h3, h4⟩
end
section
open Go.RowKit
set_option maxHeartbeats 4000000 in
theorem of_pos (z : Int) (w : World) (h0 : 0 ≤ z) (h1 : z ≤ 9223372036854775807) :
  Calls Tryz.prog 105 #[.int .i64 z] w (RetBig z w) := by
 have HD : Hid (decide (z < 0) = false ∧ max z (-z) = z) := by
  have h : decide (z < 0) = false ∧ max z (-z) = z := ⟨by simp; omega, by omega⟩
  exact Lib.hid h
 have HS := Lib.hid (taken_start z (by omega))
 go_enter Tryz.func105, Tryz.ntmps105
 go_wp2_with fail
 go_loopw [0, 4] (fun n _ wr => ∃ (m : Int) (l : List Int) (sl : Value), n = .int .i64 m ∧ 0 ≤ m ∧ m ≤ z ∧ Taken z m l ∧ wr.cell? ⟨w.heap.size + 1, 0, none⟩ = some (.bool false) ∧ wr.cell? ⟨w.heap.size + 1, 1, none⟩ = some sl ∧ wr.frozen? ⟨w.heap.size + 1, 0, none⟩ = false ∧ wr.frozen? ⟨w.heap.size + 1, 1, none⟩ = false ∧ wr.ownsRow (w.heap.size + 1 + 1) 3 1 sl l.length (l.map (Value.int .i64)) ∧ (wr).cell? ⟨w.heap.size, 0, none⟩ = some (cur (wr) ⟨w.heap.size, 0, none⟩) ∧ (wr).frozen? ⟨w.heap.size, 0, none⟩ = false ∧ (wr).cell? ⟨w.heap.size, 1, none⟩ = some (cur (wr) ⟨w.heap.size, 1, none⟩) ∧ (wr).frozen? ⟨w.heap.size, 1, none⟩ = false ∧ w.heap.size + 1 < wr.heap.size ∧ Below w.heap.size w wr) (fun n _ _ => (intOf n).natAbs)
 case atStart => exact ⟨z, [], .slice none 0 0, rfl, by omega, Int.le_refl _, HS.out, (by go_simp), (by go_simp), (by go_simp), (by go_simp), ⟨rfl, .inl ⟨rfl, rfl⟩⟩, (by simp only [cur_iff, isSome_setCell]; go_simp), (by go_simp), (by simp only [cur_iff, isSome_setCell]; go_simp), (by go_simp), (by ((try simp only [World.size_alloc, World.size_setCell, size_drew, size_drewN]); omega)), (by (repeat first | with_reducible exact Below.refl _ _ | (with_reducible refine Below.alloc ?_ ?_ _; rotate_left; exact (by first | omega | (simp; done)))))⟩
 case round =>
  obtain ⟨m, l, sl, rfl, hm0, hm1, ht, c0, c1, f0, f1, hown, r0, rf0, r1, rf1, hsz, hB⟩ := hrel
  by_cases hz : m = 0
  ·subst hz
   obtain ⟨A, cap, rfl, hc, hI⟩ := isI_of_own hown
   obtain ⟨hcan, hval⟩ := taken_end ht
   have hl5 := len_le_of_val hcan (n := 5) (by rw [pw_five]; omega)
   have HC := Lib.hid hcan
   have HV := Lib.hid hval
   have HI := Lib.hid hI
   have hw0 : w.heap.size < wr.heap.size := by omega
   clear ht hown hcan hval hI
   go_wp2
   exact bodyPost_ret (res2b Tryz.results105 _ _ _ _ _ rfl (by (try simp only [isSome_setCell]); first | assumption | go_simp) (by (try simp only [isSome_setCell]); first | assumption | go_simp)) rfl ⟨_, rfl, ⟨A, l.length, cap, l, by rw [HD.out.1], ((HI.out.setCell (by simp; omega) _).setCell (by simp; omega) _).mono (Nat.zero_le _), hc, by omega, HC.out, by rw [HD.out.2, HV.out]⟩, by (repeat first | with_reducible assumption | (with_reducible refine Below.setCell ?_ ?_ _; rotate_left; exact (by (simp; done))))⟩
  ·have hl := taken_len ht (by omega) (by omega)
   have ht2 := taken_step ht (by omega)
   have HO := Lib.hid hown
   clear ht hown
   have k0 := Int.emod_nonneg m (show (10000 : Int) ≠ 0 by decide)
   have k1 := Int.emod_lt_of_pos m (show (0 : Int) < 10000 by decide)
   have q0 : 0 ≤ m / 10000 := Int.ediv_nonneg hm0 (by decide)
   have q1 : m / 10000 ≤ m := Int.ediv_le_self 10000 hm0
   have q2 : m / 10000 < m := by omega
   obtain ⟨r, hr⟩ : ∃ r, m % 10000 = r := ⟨_, rfl⟩
   rw [hr] at ht2 k0 k1
   have HT := Lib.hid ht2
   clear ht2
   have bne : (m != 0) = true := by rw [bne_iff_ne]; exact hz
   have hw0 : w.heap.size < wr.heap.size := by omega
   by_cases hr0 : r = 0
   ·subst hr0
    go_wp2_with (at_builtin; refine append_int rfl (Operand.tmp 17) (Operand.tmp 19) rfl (w.heap.size + 1 + 1) sl l.length _ rfl HO.out _ rfl (by omega) (by omega) ?_; intro A1 cap1 w1 hown1 hG; have HO1 := Lib.hid hown1; clear hown1; have hB1 : Below w.heap.size w w1 := hB.trans (hG.mono (by omega)); have hgs := hG.size; have g0 := (hG.cell (p := ⟨w.heap.size + 1, 0, none⟩) (by simp)).trans c0; have g1 := (hG.cell (p := ⟨w.heap.size + 1, 1, none⟩) (by simp)).trans c1; have g2 := (hG.frozen (p := ⟨w.heap.size + 1, 0, none⟩) (by simp)).trans f0; have g3 := (hG.frozen (p := ⟨w.heap.size + 1, 1, none⟩) (by simp)).trans f1; have g4 := (hG.cell (p := ⟨w.heap.size, 0, none⟩) (by simp; omega)).trans r0; have g5 := (hG.frozen (p := ⟨w.heap.size, 0, none⟩) (by simp; omega)).trans rf0; have g6 := (hG.cell (p := ⟨w.heap.size, 1, none⟩) (by simp; omega)).trans r1; have g7 := (hG.frozen (p := ⟨w.heap.size, 1, none⟩) (by simp; omega)).trans rf1)
    go_roundw
    case rel => exact ⟨m / 10000, l ++ [0], .slice A1 (l.length + 1) cap1, rfl, q0, by omega, HT.out, (by go_simp), (by go_simp), (by go_simp), (by go_simp), (by rw [List.length_append, List.map_append]; exact own_setCell HO1.out (by simp) _), (by simp only [cur_iff, isSome_setCell]; go_simp), (by go_simp), (by simp only [cur_iff, isSome_setCell]; go_simp), (by go_simp), (by ((try simp only [World.size_alloc, World.size_setCell, size_drew, size_drewN]); omega)), (by (repeat first | with_reducible assumption | (with_reducible refine Below.setCell ?_ ?_ _; rotate_left; exact (by (simp; done)))))⟩
    case measure => simp [intOf]; omega
   ·have hr1 : 0 < r := by omega
    clear hr0
    go_wp2_with (at_builtin; refine append_int rfl (Operand.tmp 17) (Operand.tmp 19) rfl (w.heap.size + 1 + 1) sl l.length _ rfl HO.out _ rfl (by omega) (by omega) ?_; intro A1 cap1 w1 hown1 hG; have HO1 := Lib.hid hown1; clear hown1; have hB1 : Below w.heap.size w w1 := hB.trans (hG.mono (by omega)); have hgs := hG.size; have g0 := (hG.cell (p := ⟨w.heap.size + 1, 0, none⟩) (by simp)).trans c0; have g1 := (hG.cell (p := ⟨w.heap.size + 1, 1, none⟩) (by simp)).trans c1; have g2 := (hG.frozen (p := ⟨w.heap.size + 1, 0, none⟩) (by simp)).trans f0; have g3 := (hG.frozen (p := ⟨w.heap.size + 1, 1, none⟩) (by simp)).trans f1; have g4 := (hG.cell (p := ⟨w.heap.size, 0, none⟩) (by simp; omega)).trans r0; have g5 := (hG.frozen (p := ⟨w.heap.size, 0, none⟩) (by simp; omega)).trans rf0; have g6 := (hG.cell (p := ⟨w.heap.size, 1, none⟩) (by simp; omega)).trans r1; have g7 := (hG.frozen (p := ⟨w.heap.size, 1, none⟩) (by simp; omega)).trans rf1)
    go_roundw
    case rel => exact ⟨m / 10000, l ++ [r], .slice A1 (l.length + 1) cap1, rfl, q0, by omega, HT.out, (by go_simp), (by go_simp), (by go_simp), (by go_simp), (by rw [List.length_append, List.map_append]; exact own_setCell HO1.out (by simp) _), (by simp only [cur_iff, isSome_setCell]; go_simp), (by go_simp), (by simp only [cur_iff, isSome_setCell]; go_simp), (by go_simp), (by ((try simp only [World.size_alloc, World.size_setCell, size_drew, size_drewN]); omega)), (by (repeat first | with_reducible assumption | (with_reducible refine Below.setCell ?_ ?_ _; rotate_left; exact (by (simp; done)))))⟩
    case measure => simp [intOf]; omega
set_option maxHeartbeats 4000000 in
theorem of_neg (z : Int) (w : World) (h0 : 0 < z) (h1 : z ≤ 9223372036854775807) :
  Calls Tryz.prog 105 #[.int .i64 (-z)] w (RetBig (-z) w) := by
 have HD : Hid (decide ((-z) < 0) = true ∧ max (-z) (-(-z)) = z) := by
  have h : decide ((-z) < 0) = true ∧ max (-z) (-(-z)) = z := ⟨by simp; omega, by omega⟩
  exact Lib.hid h
 have HS := Lib.hid (taken_start z (by omega))
 go_enter Tryz.func105, Tryz.ntmps105
 go_wp2_with fail
 go_loopw [0, 4] (fun n _ wr => ∃ (m : Int) (l : List Int) (sl : Value), n = .int .i64 (-m) ∧ 0 ≤ m ∧ m ≤ z ∧ Taken z m l ∧ wr.cell? ⟨w.heap.size + 1, 0, none⟩ = some (.bool true) ∧ wr.cell? ⟨w.heap.size + 1, 1, none⟩ = some sl ∧ wr.frozen? ⟨w.heap.size + 1, 0, none⟩ = false ∧ wr.frozen? ⟨w.heap.size + 1, 1, none⟩ = false ∧ wr.ownsRow (w.heap.size + 1 + 1) 3 1 sl l.length (l.map (Value.int .i64)) ∧ (wr).cell? ⟨w.heap.size, 0, none⟩ = some (cur (wr) ⟨w.heap.size, 0, none⟩) ∧ (wr).frozen? ⟨w.heap.size, 0, none⟩ = false ∧ (wr).cell? ⟨w.heap.size, 1, none⟩ = some (cur (wr) ⟨w.heap.size, 1, none⟩) ∧ (wr).frozen? ⟨w.heap.size, 1, none⟩ = false ∧ w.heap.size + 1 < wr.heap.size ∧ Below w.heap.size w wr) (fun n _ _ => (intOf n).natAbs)
 case atStart => exact ⟨z, [], .slice none 0 0, rfl, by omega, Int.le_refl _, HS.out, (by go_simp), (by go_simp), (by go_simp), (by go_simp), ⟨rfl, .inl ⟨rfl, rfl⟩⟩, (by simp only [cur_iff, isSome_setCell]; go_simp), (by go_simp), (by simp only [cur_iff, isSome_setCell]; go_simp), (by go_simp), (by ((try simp only [World.size_alloc, World.size_setCell, size_drew, size_drewN]); omega)), (by (repeat first | with_reducible exact Below.refl _ _ | (with_reducible refine Below.alloc ?_ ?_ _; rotate_left; exact (by first | omega | (simp; done)))))⟩
 case round =>
  obtain ⟨m, l, sl, rfl, hm0, hm1, ht, c0, c1, f0, f1, hown, r0, rf0, r1, rf1, hsz, hB⟩ := hrel
  by_cases hz : m = 0
  ·subst hz
   obtain ⟨A, cap, rfl, hc, hI⟩ := isI_of_own hown
   obtain ⟨hcan, hval⟩ := taken_end ht
   have hl5 := len_le_of_val hcan (n := 5) (by rw [pw_five]; omega)
   have HC := Lib.hid hcan
   have HV := Lib.hid hval
   have HI := Lib.hid hI
   have hw0 : w.heap.size < wr.heap.size := by omega
   clear ht hown hcan hval hI
   go_wp2
   exact bodyPost_ret (res2b Tryz.results105 _ _ _ _ _ rfl (by (try simp only [isSome_setCell]); first | assumption | go_simp) (by (try simp only [isSome_setCell]); first | assumption | go_simp)) rfl ⟨_, rfl, ⟨A, l.length, cap, l, by rw [HD.out.1], ((HI.out.setCell (by simp; omega) _).setCell (by simp; omega) _).mono (Nat.zero_le _), hc, by omega, HC.out, by rw [HD.out.2, HV.out]⟩, by (repeat first | with_reducible assumption | (with_reducible refine Below.setCell ?_ ?_ _; rotate_left; exact (by (simp; done))))⟩
  ·have hl := taken_len ht (by omega) (by omega)
   have ht2 := taken_step ht (by omega)
   have HO := Lib.hid hown
   clear ht hown
   have k0 := Int.emod_nonneg m (show (10000 : Int) ≠ 0 by decide)
   have k1 := Int.emod_lt_of_pos m (show (0 : Int) < 10000 by decide)
   have q0 : 0 ≤ m / 10000 := Int.ediv_nonneg hm0 (by decide)
   have q1 : m / 10000 ≤ m := Int.ediv_le_self 10000 hm0
   have q2 : m / 10000 < m := by omega
   obtain ⟨r, hr⟩ : ∃ r, m % 10000 = r := ⟨_, rfl⟩
   rw [hr] at ht2 k0 k1
   have HT := Lib.hid ht2
   clear ht2
   have bne : (-m != 0) = true := by rw [bne_iff_ne]; omega
   have tm := neg_tmod m hm0
   rw [hr] at tm
   have td := neg_tdiv m hm0
   have hw0 : w.heap.size < wr.heap.size := by omega
   by_cases hr0 : r = 0
   ·subst hr0
    go_wp2_with (at_builtin; refine append_int rfl (Operand.tmp 17) (Operand.tmp 19) rfl (w.heap.size + 1 + 1) sl l.length _ rfl HO.out _ rfl (by omega) (by omega) ?_; intro A1 cap1 w1 hown1 hG; have HO1 := Lib.hid hown1; clear hown1; have hB1 : Below w.heap.size w w1 := hB.trans (hG.mono (by omega)); have hgs := hG.size; have g0 := (hG.cell (p := ⟨w.heap.size + 1, 0, none⟩) (by simp)).trans c0; have g1 := (hG.cell (p := ⟨w.heap.size + 1, 1, none⟩) (by simp)).trans c1; have g2 := (hG.frozen (p := ⟨w.heap.size + 1, 0, none⟩) (by simp)).trans f0; have g3 := (hG.frozen (p := ⟨w.heap.size + 1, 1, none⟩) (by simp)).trans f1; have g4 := (hG.cell (p := ⟨w.heap.size, 0, none⟩) (by simp; omega)).trans r0; have g5 := (hG.frozen (p := ⟨w.heap.size, 0, none⟩) (by simp; omega)).trans rf0; have g6 := (hG.cell (p := ⟨w.heap.size, 1, none⟩) (by simp; omega)).trans r1; have g7 := (hG.frozen (p := ⟨w.heap.size, 1, none⟩) (by simp; omega)).trans rf1)
    go_roundw
    case rel => exact ⟨m / 10000, l ++ [0], .slice A1 (l.length + 1) cap1, rfl, q0, by omega, HT.out, (by go_simp), (by go_simp), (by go_simp), (by go_simp), (by rw [List.length_append, List.map_append]; exact own_setCell HO1.out (by simp) _), (by simp only [cur_iff, isSome_setCell]; go_simp), (by go_simp), (by simp only [cur_iff, isSome_setCell]; go_simp), (by go_simp), (by ((try simp only [World.size_alloc, World.size_setCell, size_drew, size_drewN]); omega)), (by (repeat first | with_reducible assumption | (with_reducible refine Below.setCell ?_ ?_ _; rotate_left; exact (by (simp; done)))))⟩
    case measure => simp [intOf]; omega
   ·have hr1 : 0 < r := by omega
    clear hr0
    go_wp2_with (at_builtin; refine append_int rfl (Operand.tmp 17) (Operand.tmp 19) rfl (w.heap.size + 1 + 1) sl l.length _ rfl HO.out _ rfl (by omega) (by omega) ?_; intro A1 cap1 w1 hown1 hG; have HO1 := Lib.hid hown1; clear hown1; have hB1 : Below w.heap.size w w1 := hB.trans (hG.mono (by omega)); have hgs := hG.size; have g0 := (hG.cell (p := ⟨w.heap.size + 1, 0, none⟩) (by simp)).trans c0; have g1 := (hG.cell (p := ⟨w.heap.size + 1, 1, none⟩) (by simp)).trans c1; have g2 := (hG.frozen (p := ⟨w.heap.size + 1, 0, none⟩) (by simp)).trans f0; have g3 := (hG.frozen (p := ⟨w.heap.size + 1, 1, none⟩) (by simp)).trans f1; have g4 := (hG.cell (p := ⟨w.heap.size, 0, none⟩) (by simp; omega)).trans r0; have g5 := (hG.frozen (p := ⟨w.heap.size, 0, none⟩) (by simp; omega)).trans rf0; have g6 := (hG.cell (p := ⟨w.heap.size, 1, none⟩) (by simp; omega)).trans r1; have g7 := (hG.frozen (p := ⟨w.heap.size, 1, none⟩) (by simp; omega)).trans rf1)
    go_roundw
    case rel => exact ⟨m / 10000, l ++ [r], .slice A1 (l.length + 1) cap1, rfl, q0, by omega, HT.out, (by go_simp), (by go_simp), (by go_simp), (by go_simp), (by rw [List.length_append, List.map_append]; exact own_setCell HO1.out (by simp) _), (by simp only [cur_iff, isSome_setCell]; go_simp), (by go_simp), (by simp only [cur_iff, isSome_setCell]; go_simp), (by go_simp), (by ((try simp only [World.size_alloc, World.size_setCell, size_drew, size_drewN]); omega)), (by (repeat first | with_reducible assumption | (with_reducible refine Below.setCell ?_ ?_ _; rotate_left; exact (by (simp; done)))))⟩
    case measure => simp [intOf]; omega
end
section
open Go.RowKit
theorem val_zeros (P : List Int) (k : Nat) (hk : k ≤ P.length) (h : ∀ j, k ≤ j → j < P.length → P.getD j 0 = 0) : val (P.take k) = val P := by
 have key : ∀ R : List Int, (∀ j, j < R.length → R.getD j 0 = 0) → val R = 0 := by
  intro R
  induction R with
  | nil => intro _; rfl
  | cons d R ih =>
   intro h
   have h0 : d = 0 := by simpa using h 0 (by simp)
   have h1 := ih (fun j hj => by simpa using h (j + 1) (by simpa using hj))
   show d + 10000 * val R = 0
   omega
 have e := val_append (P.take k) (P.drop k)
 rw [List.take_append_drop] at e
 have hz := key (P.drop k) (fun j hj => by
  have hj' : k + j < P.length := by simp at hj; omega
  have := h (k + j) (by omega) hj'
  simpa [List.getD_eq_getElem?_getD, List.getElem?_drop] using this)
 rw [hz, Int.mul_zero, Int.add_zero] at e
 exact e.symm
theorem canon_take (P : List Int) (k : Nat) (hd : Digs P) (hk : k ≤ P.length) (hl : 0 < k → P.getD (k - 1) 0 ≠ 0) : Canon (P.take k) := by
 refine ⟨fun x hx => hd x (List.mem_of_mem_take hx), fun d h => ?_⟩
 rcases k with _ | k
 ·simp at h
 ·have h1 := hl (by omega)
  rw [List.take_succ_eq_append_getElem (by omega), List.getLast?_concat] at h
  have h2 : P[k] = d := by simpa using h
  rw [List.getD_eq_getElem?_getD, Nat.add_sub_cancel, List.getElem?_eq_getElem (by omega)] at h1
  rw [← h2]
  exact h1
theorem res2c {fn : Func} {p : Tmp} (h : fn.results = #[.cell p 158]) (tmps : Array Value) (W : World) (b : Nat) (x y : Value)
  (hp : tmps.getD p undef = .pointer (some ⟨b, 0, none⟩)) (h0 : W.cell? ⟨b, 0, none⟩ = some x) (h1 : W.cell? ⟨b, 1, none⟩ = some y) :
  (results fn tmps).run Tryz.prog W = .ok (.agg #[x, y]) W := by
 have hp' : tmps[p]?.getD undef = .pointer (some ⟨b, 0, none⟩) := by simpa using hp
 simp only [results, h]
 simp [Sem.run_bind, Result.andThen, go_sem, hp', h0, h1]
def Trimmed (base : Nat) (neg : Bool) (n : Nat) (P : List Int) (w : World) (e : Ending) (w' : World) : Prop :=
 ∃ (A : Option Addr) (k cap : Nat), e = .returned (.agg #[.bool (neg && decide (0 < k)), .slice A k cap]) ∧ IsI w' base A k (P.take k) ∧ k ≤ cap ∧ k ≤ n ∧ Canon (P.take k) ∧ val (P.take k) = val P ∧ Below w.heap.size w w'
set_option maxHeartbeats 4000000 in
theorem trim_any (base : Nat) (neg : Bool) (A : Option Addr) (n cap : Nat) (P : List Int) (w : World) (hI : IsI w base A n P) (hc : n ≤ cap) (hn : n ≤ 64) (hd : Digs P) :
  Calls Tryz.prog 144 #[.agg #[.bool neg, .slice A n cap]] w (Trimmed base neg n P w) := by
 have HL := Lib.hid hI.1
 have HI := Lib.hid hI
 have HD := Lib.hid hd
 clear hI hd
 go_enter Tryz.func144, Tryz.ntmps144
 go_wp2_with fail
 go_loop [3] (fun s => ∃ k : Nat, k ≤ n ∧ s = .int .i64 k ∧ ∀ j, k ≤ j → j < n → P.getD j 0 = 0) (fun s => (intOf s).toNat)
 case atStart => exact ⟨n, Nat.le_refl _, rfl, fun j h1 h2 => by omega⟩
 case round =>
  obtain ⟨k, hk, rfl, hz⟩ := hrel
  have HZ := Lib.hid hz
  clear hz
  rcases k with _ | k
  ·go_wp2
   exact bodyPost_ret (res2c Tryz.results144 _ _ _ (.bool false) (.slice A 0 cap) rfl (by go_simp) (by go_simp)) rfl ⟨A, 0, cap, by simp, ⟨by simp, fun h => absurd h (by omega)⟩, Nat.zero_le _, Nat.zero_le _, canon_take P 0 HD.out (Nat.zero_le _) (fun h => absurd h (by omega)), val_zeros P 0 (Nat.zero_le _) (fun j h1 h2 => HZ.out j h1 (by rw [← HL.out]; exact h2)), by (repeat first | with_reducible exact Below.refl _ _ | (with_reducible refine Below.alloc ?_ ?_ _; rotate_left; exact (by first | omega | (simp; done))))⟩
  ·have HI2 := HI
   obtain ⟨b, o, rfl, hbase, hb, hcells⟩ := HI.out.2 (by omega)
   have hcell := hcells k (by omega)
   have HC := Lib.hid hcells
   clear hcells HI
   obtain ⟨x, hxe⟩ : ∃ x, P.getD k 0 = x := ⟨_, rfl⟩
   rw [hxe] at hcell
   have HX := Lib.hid hxe
   clear hxe
   have k0 : (0 : Int) ≤ k := by omega
   have k1 : (k : Int) < n := by omega
   by_cases hx : x = 0
   ·subst hx
    go_wp2
    go_round
    case rel => exact ⟨k, by omega, (by rfl), fun j h1 h2 => by
     rcases Nat.lt_or_ge k j with h3 | h3
     ·exact HZ.out j h3 h2
     ·rw [show j = k by omega]; exact HX.out⟩
    case measure => first | (simp [intOf]; done) | (simp [intOf]; omega)
   ·have b0 : (x == 0) = false := by rw [beq_eq_false_iff_ne]; exact hx
    have b1 : ((k : Int) + 1 == 0) = false := by rw [beq_eq_false_iff_ne]; omega
    have HN := Lib.hid hx
    clear hx
    go_wp2
    exact bodyPost_ret (res2c Tryz.results144 _ _ _ (.bool neg) (.slice (some ⟨b, o, none⟩) (k + 1) cap) rfl (by go_simp) (by go_simp)) rfl ⟨some ⟨b, o, none⟩, k + 1, cap, by simp, ⟨by rw [List.length_take, HL.out]; omega, fun _ => ⟨b, o, rfl, hbase, by simp; omega, fun j hj => by
     rw [World.cell?_alloc_lt _ _ _ (by simp; omega), World.cell?_alloc_lt _ _ _ hb, HC.out j (by omega), List.getD_eq_getElem?_getD, List.getD_eq_getElem?_getD, List.getElem?_take_of_lt hj]⟩⟩, by omega, hk, canon_take P (k + 1) HD.out (by rw [HL.out]; exact hk) (fun _ => by rw [Nat.add_sub_cancel, HX.out]; exact HN.out), val_zeros P (k + 1) (by rw [HL.out]; exact hk) (fun j h1 h2 => HZ.out j h1 (by rw [← HL.out]; exact h2)), by (repeat first | with_reducible exact Below.refl _ _ | (with_reducible refine Below.alloc ?_ ?_ _; rotate_left; exact (by first | omega | (simp; done))))⟩
end
end Go.Proofs.YthggkidiidnaoaaGreatDoor
