import Derived.Test.YthggkidiidnaoaaGreatDoorKAB
import Derived.Test.YthggkidiidnaoaaGreatDoorKAC
import Derived.Lib.Hide
import Derived.WalkSpells
import Derived.WalkLawsBesides
namespace Go.Proofs.YthggkidiidnaoaaGreatDoor
set_option linter.unusedVariables false
set_option linter.unusedSimpArgs false
section
open Go.RowKit Go.Shelf
end
section
open Go.RowKit Go.Shelf
end
section
open Go.RowKit
def two (k : Nat) : Int := ((2 ^ k : Nat) : Int)
end
section
theorem flo_iff (q x y : Int) (hy : y ≠ 0) : q ≤ flo x y ↔ (0 < y ∧ q * y ≤ x) ∨ (y < 0 ∧ x ≤ q * y) := by
 unfold flo
 by_cases h : 0 < y
 ·rw [if_pos h, Int.le_ediv_iff_mul_le h]
  constructor
  ·intro k; exact .inl ⟨h, k⟩
  ·rintro (⟨_, k⟩ | ⟨k, _⟩)
   ·exact k
   ·omega
 ·rw [if_neg h, Int.le_ediv_iff_mul_le (by omega), Int.mul_neg]
  constructor
  ·intro k; exact .inr ⟨by omega, by omega⟩
  ·rintro (⟨k, _⟩ | ⟨_, k⟩)
   ·omega
   ·omega
section
variable {a b c d a' b' c' d' : Int} (v1 : vld a b = true) (v2 : vld c d = true) (v3 : vld a' b' = true) (v4 : vld c' d' = true) (h1 : a' ≤ a) (h2 : b ≤ b') (h3 : c' ≤ c) (h4 : d ≤ d')
include v1 v2 v3 v4 h1 h2 h3 h4
end
end
section
set_option linter.unusedSectionVars false
theorem ediv_abs {x y k : Int} (h1 : -k ≤ x) (h2 : x ≤ k) (hk : 0 ≤ k) (hy : 0 < y) : -k ≤ x / y ∧ x / y ≤ k := by
 constructor
 ·rw [Int.le_ediv_iff_mul_le hy]
  have := Int.mul_le_mul_of_nonneg_left (show 1 ≤ y by omega) hk
  rw [Int.neg_mul]
  omega
 ·rcases Int.lt_or_le x 0 with h | h
  ·have := Int.ediv_neg_of_neg_of_pos h hy
   omega
  ·exact Int.le_trans (Int.ediv_le_self y h) h2
theorem flo_abs {x y k : Int} (h1 : -k ≤ x) (h2 : x ≤ k) (hk : 0 ≤ k) (hy : y ≠ 0) : -k ≤ flo x y ∧ flo x y ≤ k := by
 unfold flo
 by_cases h : 0 < y
 ·rw [if_pos h]; exact ediv_abs h1 h2 hk h
 ·rw [if_neg h]; exact ediv_abs (by omega) (by omega) hk (by omega)
theorem cei_abs {x y k : Int} (h1 : -k ≤ x) (h2 : x ≤ k) (hk : 0 ≤ k) (hy : y ≠ 0) : -k ≤ cei x y ∧ cei x y ≤ k := by
 have := flo_abs (x := -x) (k := k) (by omega) (by omega) hk hy
 unfold cei
 omega
section
variable {a b c d m n : Int} (v1 : vld a b = true) (v2 : vld c d = true) (h1 : a ≤ m) (h2 : m ≤ b) (h3 : c ≤ n) (h4 : n ≤ d) (g1 : greatestL a b ≤ 1000000000) (g2 : greatestL c d ≤ 1000000)
include v1 v2 h1 h2 h3 h4 g1 g2
end
end
section
open Go.RowKit
end
section
open Go.RowKit
theorem of_big (z : Int) (w : World) (h0 : -9223372036854775807 ≤ z) (h1 : z ≤ 9223372036854775807) :
  Calls Tryz.prog 105 #[.int .i64 z] w (RetBig z w) := by
 by_cases h : 0 ≤ z
 ·exact of_pos z w h h1
 ·have e := of_neg (-z) w (by omega) (by omega)
  rwa [Int.neg_neg] at e
end
section
open Go.RowKit
theorem big_zero {w : World} {v : Value} {z : Int} {A : Option Addr} {n cap : Nat} {P : List Int} (hI : IsI w 0 A n P) (hC : Canon P) (hv : val P = max z (-z)) : n = 0 ↔ z = 0 := by
 have h0 := canon_nil hC
 rw [← hI.1]
 constructor
 ·intro h
  have : P = [] := List.eq_nil_of_length_eq_zero h
  have := h0.2 this
  omega
 ·intro h
  subst h
  rw [h0.1 (by rw [hv]; rfl)]
  rfl
set_option maxHeartbeats 2000000 in
theorem minus_new (base : Nat) (z : Int) (u : Value) (w : World) (hu : BigB w base u z) :
  Calls Tryz.prog 143 #[u] w (RetNew base (-z) w) := by
 obtain ⟨A, n, cap, P, rfl, h1, h2, h3, h4, h5⟩ := hu
 have hz := big_zero (w := w) (v := undef) (z := z) (n := n) (cap := cap) (h1.mono (Nat.zero_le _)) h4 h5
 have HI := Lib.hid h1
 have HC := Lib.hid h4
 have HV := Lib.hid (show val P = max (-z) (- -z) by omega)
 clear h1 h4 h5
 rcases Int.lt_trichotomy z 0 with h | h | h
 ·have e1 : decide (z < 0) = true := by simp; omega
  have HE := Lib.hid (show decide (-z < 0) = false by simp; omega)
  rw [e1]
  clear e1 hz h
  go_enter Tryz.func143, Tryz.ntmps143
  go_wp2
  all_goals exact bodyPost_ret (res2c Tryz.results143 _ _ _ (.bool false) (.slice A n cap) rfl (by go_simp) (by go_simp)) rfl ⟨_, rfl, ⟨A, n, cap, P, by rw [HE.out], (HI.out.below (by (repeat first | with_reducible exact Below.refl _ _ | (with_reducible refine Below.alloc ?_ ?_ _; rotate_left; exact (by first | omega | (simp; done)))))), h2, h3, HC.out, HV.out⟩, by (repeat first | with_reducible exact Below.refl _ _ | (with_reducible refine Below.alloc ?_ ?_ _; rotate_left; exact (by first | omega | (simp; done))))⟩
 ·have e1 : decide (z < 0) = false := by simp; omega
  have HE := Lib.hid (show decide (-z < 0) = false by simp; omega)
  obtain rfl : n = 0 := hz.2 h
  rw [e1]
  clear e1 hz h
  go_enter Tryz.func143, Tryz.ntmps143
  go_wp2
  all_goals exact bodyPost_ret (res2c Tryz.results143 _ _ _ (.bool false) (.slice A 0 cap) rfl (by go_simp) (by go_simp)) rfl ⟨_, rfl, ⟨A, 0, cap, P, by rw [HE.out], (HI.out.below (by (repeat first | with_reducible exact Below.refl _ _ | (with_reducible refine Below.alloc ?_ ?_ _; rotate_left; exact (by first | omega | (simp; done)))))), h2, h3, HC.out, HV.out⟩, by (repeat first | with_reducible exact Below.refl _ _ | (with_reducible refine Below.alloc ?_ ?_ _; rotate_left; exact (by first | omega | (simp; done))))⟩
 ·have e1 : decide (z < 0) = false := by simp; omega
  have HE := Lib.hid (show decide (-z < 0) = true by simp; omega)
  have hn : 0 < n := by omega
  rw [e1]
  clear e1 hz h
  go_enter Tryz.func143, Tryz.ntmps143
  go_wp2
  all_goals exact bodyPost_ret (res2c Tryz.results143 _ _ _ (.bool true) (.slice A n cap) rfl (by go_simp) (by go_simp)) rfl ⟨_, rfl, ⟨A, n, cap, P, by rw [HE.out], (HI.out.below (by (repeat first | with_reducible exact Below.refl _ _ | (with_reducible refine Below.alloc ?_ ?_ _; rotate_left; exact (by first | omega | (simp; done)))))), h2, h3, HC.out, HV.out⟩, by (repeat first | with_reducible exact Below.refl _ _ | (with_reducible refine Below.alloc ?_ ?_ _; rotate_left; exact (by first | omega | (simp; done))))⟩
theorem RetNew.big {base : Nat} {z : Int} {w w' : World} {e : Ending} (h : RetNew base z w e w') : RetBig z w e w' := by
 obtain ⟨v, h1, h2, h3⟩ := h
 exact ⟨v, h1, h2.big, h3⟩
theorem minus_big (z : Int) (u : Value) (w : World) (hu : BigV w u z) :
  Calls Tryz.prog 143 #[u] w (RetBig (-z) w) :=
 (minus_new 0 z u w hu).mono fun _ _ h => h.big
end
section
open Go.RowKit
theorem drop_all (P : List Int) (k : Nat) : val (P.drop k) = P.getD k 0 + 10000 * val (P.drop (k + 1)) := by
 rcases Nat.lt_or_ge k P.length with h | h
 ·exact drop_step P k h
 ·rw [List.drop_of_length_le h, List.drop_of_length_le (by omega), List.getD_eq_getElem?_getD, List.getElem?_eq_none h]
  rfl
def Summed (P Q : List Int) (c : Int) (i : Nat) (l : List Int) : Prop :=
 l.length = i ∧ Digs l ∧ val l + pw i * (c + val (P.drop i) + val (Q.drop i)) = val P + val Q
theorem summed_start (P Q : List Int) : Summed P Q 0 0 [] := ⟨rfl, fun x hx => (by cases hx), by show 0 + 1 * (0 + val P + val Q) = _; omega⟩
theorem summed_step {P Q l : List Int} {c : Int} {i : Nat} (h : Summed P Q c i l) (hv : 0 ≤ c + P.getD i 0 + Q.getD i 0) :
  Summed P Q ((c + P.getD i 0 + Q.getD i 0) / 10000) (i + 1) (l ++ [(c + P.getD i 0 + Q.getD i 0) % 10000]) := by
 obtain ⟨h1, h2, h3⟩ := h
 have e1 := drop_all P i
 have e2 := drop_all Q i
 have m0 := Int.emod_nonneg (c + P.getD i 0 + Q.getD i 0) (show (10000 : Int) ≠ 0 by decide)
 have m1 := Int.emod_lt_of_pos (c + P.getD i 0 + Q.getD i 0) (show (0 : Int) < 10000 by decide)
 refine ⟨by rw [List.length_append, h1]; rfl, h2.snoc m0 m1, ?_⟩
 rw [val_snoc, h1, ← h3, pw_succ]
 generalize hX : (c + P.getD i 0 + Q.getD i 0) / 10000 + val (P.drop (i + 1)) + val (Q.drop (i + 1)) = X
 have e : c + val (P.drop i) + val (Q.drop i) = (c + P.getD i 0 + Q.getD i 0) % 10000 + 10000 * X := by omega
 rw [e, Int.mul_add, Int.mul_assoc, ← Int.mul_assoc (pw i), Int.mul_comm (pw i) 10000, Int.mul_assoc]
 omega
theorem summed_end {P Q l : List Int} {i : Nat} (h : Summed P Q 0 i l) (hp : P.length ≤ i) (hq : Q.length ≤ i) : l.length = i ∧ Digs l ∧ val l = val P + val Q := by
 obtain ⟨h1, h2, h3⟩ := h
 rw [List.drop_of_length_le hp, List.drop_of_length_le hq] at h3
 refine ⟨h1, h2, ?_⟩
 rw [← h3]
 show val l = val l + pw i * (0 + 0 + 0)
 rw [show (0 : Int) + 0 + 0 = 0 by rfl, Int.mul_zero]
 omega
theorem getD_out {P : List Int} {i : Nat} (h : P.length ≤ i) : P.getD i 0 = 0 := by
 rw [List.getD_eq_getElem?_getD, List.getElem?_eq_none h]
 rfl
def RetDigs (neg : Bool) (z : Int) (w : World) (e : Ending) (w' : World) : Prop :=
 ∃ (A : Option Addr) (k cap : Nat) (R : List Int), e = .returned (.agg #[.bool (neg && decide (0 < k)), .slice A k cap]) ∧ IsI w' w.heap.size A k R ∧ k ≤ cap ∧ k ≤ 64 ∧ Canon R ∧ val R = z ∧ Below w.heap.size w w'
set_option maxRecDepth 100000 in
set_option maxHeartbeats 8000000 in
theorem plus_same (neg : Bool) (A B : Option Addr) (n m ca cb mx : Nat) (P Q : List Int) (w : World) (hI : IsI w 0 A n P) (hJ : IsI w 0 B m Q) (hn : n ≤ mx) (hm : m ≤ mx) (hmx : mx ≤ 32) (hmx1 : mx ≤ n ∨ mx ≤ m) (hP : Digs P) (hQ : Digs Q) :
  Calls Tryz.prog 146 #[.agg #[.bool neg, .slice A n ca], .agg #[.bool neg, .slice B m cb]] w (RetDigs neg (val P + val Q) w) := by
 have HI := Lib.hid hI
 have HJ := Lib.hid hJ
 have LP := Lib.hid hI.1
 have LQ := Lib.hid hJ.1
 have HP := Lib.hid hP
 have HQ := Lib.hid hQ
 have hbb : (neg == neg) = true := by simp
 clear hI hJ hP hQ
 go_enter Tryz.func146, Tryz.ntmps146
 go_wp2_with fail
 go_loopw [6, 7] (fun cv iv wr => ∃ (c : Int) (i : Nat) (l : List Int) (sl : Value), cv = .int .i64 c ∧ iv = .int .i64 i ∧ 0 ≤ c ∧ c ≤ 1 ∧ i ≤ mx + 1 ∧ (i = mx + 1 → c = 0) ∧ Summed P Q c i l ∧ wr.cell? ⟨w.heap.size + 1 + 1 + 1, 0, none⟩ = some (.bool neg) ∧ wr.cell? ⟨w.heap.size + 1 + 1 + 1, 1, none⟩ = some sl ∧ wr.frozen? ⟨w.heap.size + 1 + 1 + 1, 0, none⟩ = false ∧ wr.frozen? ⟨w.heap.size + 1 + 1 + 1, 1, none⟩ = false ∧ wr.ownsRow (w.heap.size + 1 + 1 + 1 + 1) 3 1 sl i (l.map (Value.int .i64)) ∧ wr.cell? ⟨w.heap.size, 1, none⟩ = some (.slice A n ca) ∧ wr.cell? ⟨w.heap.size + 1, 1, none⟩ = some (.slice B m cb) ∧ (wr).cell? ⟨w.heap.size + 1 + 1, 0, none⟩ = some (cur (wr) ⟨w.heap.size + 1 + 1, 0, none⟩) ∧ (wr).frozen? ⟨w.heap.size + 1 + 1, 0, none⟩ = false ∧ (wr).cell? ⟨w.heap.size + 1 + 1, 1, none⟩ = some (cur (wr) ⟨w.heap.size + 1 + 1, 1, none⟩) ∧ (wr).frozen? ⟨w.heap.size + 1 + 1, 1, none⟩ = false ∧ w.heap.size + 1 + 1 + 1 < wr.heap.size ∧ Below w.heap.size w wr) (fun _ iv _ => 40 - (intOf iv).toNat)
 case atStart => exact ⟨0, 0, [], .slice none 0 0, rfl, rfl, Int.le_refl _, by omega, by omega, fun _ => rfl, summed_start P Q, (by go_simp), (by go_simp), (by go_simp), (by go_simp), ⟨rfl, .inl ⟨rfl, rfl⟩⟩, (by go_simp), (by go_simp), (by simp only [cur_iff, isSome_setCell]; go_simp), (by go_simp), (by simp only [cur_iff, isSome_setCell]; go_simp), (by go_simp), (by ((try simp only [World.size_alloc, World.size_setCell, size_drew, size_drewN]); omega)), (by (repeat first | with_reducible exact Below.refl _ _ | (with_reducible refine Below.alloc ?_ ?_ _; rotate_left; exact (by first | omega | (simp; done) | (simp; omega)))))⟩
 case round =>
  obtain ⟨c, i, l, sl, rfl, rfl, hc0, hc1, hi, hic, hs, c0, c1, f0, f1, hown, ta, tb, r0, rf0, r1, rf1, hsz, hB⟩ := hrel
  have HO := Lib.hid hown
  have hw0 : w.heap.size < wr.heap.size := by omega
  have hw1 : w.heap.size + 1 < wr.heap.size := by omega
  have hw2 : w.heap.size + 1 + 1 < wr.heap.size := by omega
  have i0 : (0 : Int) ≤ i := by omega
  have pd := digs_getD HP.out i
  have qd := digs_getD HQ.out i
  have hstep := summed_step hs (by omega)
  have HS := Lib.hid hs
  clear hs hown
  by_cases hin : i < n
  ·by_cases him : i < m
   ·obtain ⟨a, ao, rfl, _, ha, hcP⟩ := HI.out.2 (by omega)
    have p0 := (hB.cell (p := ⟨a, ao + i, none⟩) ha).trans (hcP i (by omega))
    have k1 : (i : Int) < n := by omega
    clear hcP
    obtain ⟨b, bo, rfl, _, hb, hcQ⟩ := HJ.out.2 (by omega)
    have q0 := (hB.cell (p := ⟨b, bo + i, none⟩) hb).trans (hcQ i (by omega))
    have k2 : (i : Int) < m := by omega
    clear hcQ
    generalize P.getD i 0 = p at *
    generalize Q.getD i 0 = q at *
    obtain ⟨pd0, pd1⟩ := pd
    obtain ⟨qd0, qd1⟩ := qd
    have hv0 : 0 ≤ c + p + q := by omega
    have HT := Lib.hid hstep
    clear hstep
    go_wp2_with (at_builtin; refine append_int rfl (Operand.tmp 65) (Operand.tmp 68) rfl (w.heap.size + 1 + 1 + 1 + 1) sl i _ rfl HO.out _ rfl (by omega) (by omega) ?_; intro A1 cap1 w1 hown1 hG; have HO1 := Lib.hid hown1; clear hown1; have hB1 : Below w.heap.size w w1 := hB.trans (hG.mono (by omega)); have hgs := hG.size; have g0 := (hG.cell (p := ⟨w.heap.size + 1 + 1 + 1, 0, none⟩) (by (simp; done))).trans c0; have g1 := (hG.cell (p := ⟨w.heap.size + 1 + 1 + 1, 1, none⟩) (by (simp; done))).trans c1; have g2 := (hG.frozen (p := ⟨w.heap.size + 1 + 1 + 1, 0, none⟩) (by simp)).trans f0; have g3 := (hG.frozen (p := ⟨w.heap.size + 1 + 1 + 1, 1, none⟩) (by simp)).trans f1; have g4 := (hG.cell (p := ⟨w.heap.size + 1 + 1, 0, none⟩) (by (simp; done))).trans r0; have g5 := (hG.frozen (p := ⟨w.heap.size + 1 + 1, 0, none⟩) (by (simp; done))).trans rf0; have g6 := (hG.cell (p := ⟨w.heap.size + 1 + 1, 1, none⟩) (by (simp; done))).trans r1; have g7 := (hG.frozen (p := ⟨w.heap.size + 1 + 1, 1, none⟩) (by (simp; done))).trans rf1; have g8 := (hG.cell (p := ⟨w.heap.size, 1, none⟩) (by (simp; omega))).trans ta; have g9 := (hG.cell (p := ⟨w.heap.size + 1, 1, none⟩) (by (simp; done))).trans tb)
    go_roundw
    case rel => exact ⟨(c + p + q) / 10000, i + 1, l ++ [(c + p + q) % 10000], .slice A1 (i + 1) cap1, (by rfl), (by rfl), by omega, by omega, by omega, by omega, HT.out, (by go_simp), (by go_simp), (by go_simp), (by go_simp), (by rw [List.map_append]; exact own_setCell HO1.out (by simp) _), (by go_simp), (by go_simp), (by simp only [cur_iff, isSome_setCell]; go_simp), (by go_simp), (by simp only [cur_iff, isSome_setCell]; go_simp), (by go_simp), (by ((try simp only [World.size_alloc, World.size_setCell, size_drew, size_drewN]); omega)), (by (repeat first | with_reducible assumption | (with_reducible refine Below.setCell ?_ ?_ _; rotate_left; exact (by (simp; omega)))))⟩
    case measure => first | (simp [intOf]; done) | (simp [intOf]; omega)
   ·obtain ⟨a, ao, rfl, _, ha, hcP⟩ := HI.out.2 (by omega)
    have p0 := (hB.cell (p := ⟨a, ao + i, none⟩) ha).trans (hcP i (by omega))
    have k1 : (i : Int) < n := by omega
    clear hcP
    have hq0 := getD_out (P := Q) (i := i) (by rw [LQ.out]; omega)
    rw [hq0] at hstep qd
    clear hq0
    have hz : c + P.getD i 0 + 0 = c + P.getD i 0 := by omega
    rw [hz] at hstep
    clear hz
    generalize P.getD i 0 = p at *
    obtain ⟨pd0, pd1⟩ := pd
    obtain ⟨qd0, qd1⟩ := qd
    have hv0 : 0 ≤ c + p := by omega
    have HT := Lib.hid hstep
    clear hstep
    go_wp2_with (at_builtin; refine append_int rfl (Operand.tmp 65) (Operand.tmp 68) rfl (w.heap.size + 1 + 1 + 1 + 1) sl i _ rfl HO.out _ rfl (by omega) (by omega) ?_; intro A1 cap1 w1 hown1 hG; have HO1 := Lib.hid hown1; clear hown1; have hB1 : Below w.heap.size w w1 := hB.trans (hG.mono (by omega)); have hgs := hG.size; have g0 := (hG.cell (p := ⟨w.heap.size + 1 + 1 + 1, 0, none⟩) (by (simp; done))).trans c0; have g1 := (hG.cell (p := ⟨w.heap.size + 1 + 1 + 1, 1, none⟩) (by (simp; done))).trans c1; have g2 := (hG.frozen (p := ⟨w.heap.size + 1 + 1 + 1, 0, none⟩) (by simp)).trans f0; have g3 := (hG.frozen (p := ⟨w.heap.size + 1 + 1 + 1, 1, none⟩) (by simp)).trans f1; have g4 := (hG.cell (p := ⟨w.heap.size + 1 + 1, 0, none⟩) (by (simp; done))).trans r0; have g5 := (hG.frozen (p := ⟨w.heap.size + 1 + 1, 0, none⟩) (by (simp; done))).trans rf0; have g6 := (hG.cell (p := ⟨w.heap.size + 1 + 1, 1, none⟩) (by (simp; done))).trans r1; have g7 := (hG.frozen (p := ⟨w.heap.size + 1 + 1, 1, none⟩) (by (simp; done))).trans rf1; have g8 := (hG.cell (p := ⟨w.heap.size, 1, none⟩) (by (simp; omega))).trans ta; have g9 := (hG.cell (p := ⟨w.heap.size + 1, 1, none⟩) (by (simp; done))).trans tb)
    go_roundw
    case rel => exact ⟨(c + p) / 10000, i + 1, l ++ [(c + p) % 10000], .slice A1 (i + 1) cap1, (by rfl), (by rfl), by omega, by omega, by omega, by omega, HT.out, (by go_simp), (by go_simp), (by go_simp), (by go_simp), (by rw [List.map_append]; exact own_setCell HO1.out (by simp) _), (by go_simp), (by go_simp), (by simp only [cur_iff, isSome_setCell]; go_simp), (by go_simp), (by simp only [cur_iff, isSome_setCell]; go_simp), (by go_simp), (by ((try simp only [World.size_alloc, World.size_setCell, size_drew, size_drewN]); omega)), (by (repeat first | with_reducible assumption | (with_reducible refine Below.setCell ?_ ?_ _; rotate_left; exact (by (simp; omega)))))⟩
    case measure => first | (simp [intOf]; done) | (simp [intOf]; omega)
  ·by_cases him : i < m
   ·have hp0 := getD_out (P := P) (i := i) (by rw [LP.out]; omega)
    rw [hp0] at hstep pd
    clear hp0
    obtain ⟨b, bo, rfl, _, hb, hcQ⟩ := HJ.out.2 (by omega)
    have q0 := (hB.cell (p := ⟨b, bo + i, none⟩) hb).trans (hcQ i (by omega))
    have k2 : (i : Int) < m := by omega
    clear hcQ
    have hz : c + 0 + Q.getD i 0 = c + Q.getD i 0 := by omega
    rw [hz] at hstep
    clear hz
    generalize Q.getD i 0 = q at *
    obtain ⟨pd0, pd1⟩ := pd
    obtain ⟨qd0, qd1⟩ := qd
    have hv0 : 0 ≤ c + q := by omega
    have HT := Lib.hid hstep
    clear hstep
    go_wp2_with (at_builtin; refine append_int rfl (Operand.tmp 65) (Operand.tmp 68) rfl (w.heap.size + 1 + 1 + 1 + 1) sl i _ rfl HO.out _ rfl (by omega) (by omega) ?_; intro A1 cap1 w1 hown1 hG; have HO1 := Lib.hid hown1; clear hown1; have hB1 : Below w.heap.size w w1 := hB.trans (hG.mono (by omega)); have hgs := hG.size; have g0 := (hG.cell (p := ⟨w.heap.size + 1 + 1 + 1, 0, none⟩) (by (simp; done))).trans c0; have g1 := (hG.cell (p := ⟨w.heap.size + 1 + 1 + 1, 1, none⟩) (by (simp; done))).trans c1; have g2 := (hG.frozen (p := ⟨w.heap.size + 1 + 1 + 1, 0, none⟩) (by simp)).trans f0; have g3 := (hG.frozen (p := ⟨w.heap.size + 1 + 1 + 1, 1, none⟩) (by simp)).trans f1; have g4 := (hG.cell (p := ⟨w.heap.size + 1 + 1, 0, none⟩) (by (simp; done))).trans r0; have g5 := (hG.frozen (p := ⟨w.heap.size + 1 + 1, 0, none⟩) (by (simp; done))).trans rf0; have g6 := (hG.cell (p := ⟨w.heap.size + 1 + 1, 1, none⟩) (by (simp; done))).trans r1; have g7 := (hG.frozen (p := ⟨w.heap.size + 1 + 1, 1, none⟩) (by (simp; done))).trans rf1; have g8 := (hG.cell (p := ⟨w.heap.size, 1, none⟩) (by (simp; omega))).trans ta; have g9 := (hG.cell (p := ⟨w.heap.size + 1, 1, none⟩) (by (simp; done))).trans tb)
    go_roundw
    case rel => exact ⟨(c + q) / 10000, i + 1, l ++ [(c + q) % 10000], .slice A1 (i + 1) cap1, (by rfl), (by rfl), by omega, by omega, by omega, by omega, HT.out, (by go_simp), (by go_simp), (by go_simp), (by go_simp), (by rw [List.map_append]; exact own_setCell HO1.out (by simp) _), (by go_simp), (by go_simp), (by simp only [cur_iff, isSome_setCell]; go_simp), (by go_simp), (by simp only [cur_iff, isSome_setCell]; go_simp), (by go_simp), (by ((try simp only [World.size_alloc, World.size_setCell, size_drew, size_drewN]); omega)), (by (repeat first | with_reducible assumption | (with_reducible refine Below.setCell ?_ ?_ _; rotate_left; exact (by (simp; omega)))))⟩
    case measure => first | (simp [intOf]; done) | (simp [intOf]; omega)
   ·by_cases hcz : c = 0
    ·subst hcz
     have hend := summed_end HS.out (by rw [LP.out]; omega) (by rw [LQ.out]; omega)
     obtain ⟨A1, cap1, rfl, hca, hIo⟩ := isI_of_own HO.out
     have HIO := Lib.hid hIo
     have HE := Lib.hid hend
     clear hIo hend hstep HS
     go_wp2_with fail
     refine (trim_any (w.heap.size + 1 + 1 + 1 + 1) neg _ i cap1 l _ HIO.out hca (by omega) HE.out.2.1).mono ?_
     rintro e w1 ⟨A', k', cap', rfl, hI', q1, q2, q3, q4, hb⟩
     have HI' := Lib.hid hI'
     have H3 := Lib.hid q3
     have H4 := Lib.hid q4
     have g0 := (hb.cell (p := ⟨w.heap.size + 1 + 1, 0, none⟩) (by omega)).trans r0
     have g1 := (hb.cell (p := ⟨w.heap.size + 1 + 1, 1, none⟩) (by omega)).trans r1
     have g2 := (hb.frozen (p := ⟨w.heap.size + 1 + 1, 0, none⟩) (by omega)).trans rf0
     have g3 := (hb.frozen (p := ⟨w.heap.size + 1 + 1, 1, none⟩) (by omega)).trans rf1
     have hB1 : Below w.heap.size w w1 := hB.trans (hb.mono (by omega))
     clear hI' q3 q4 hb r0 r1 rf0 rf1
     go_wp2
     exact bodyPost_ret (res2b Tryz.results146 _ _ _ _ _ rfl (by (try simp only [isSome_setCell]); first | assumption | go_simp) (by (try simp only [isSome_setCell]); first | assumption | go_simp)) rfl ⟨A', k', cap', l.take k', rfl, ((HI'.out.setCell (by (simp; done)) _).setCell (by (simp; done)) _).mono (by omega), q1, by omega, H3.out, by rw [H4.out, HE.out.2.2], by (repeat first | with_reducible assumption | (with_reducible refine Below.setCell ?_ ?_ _; rotate_left; exact (by (simp; omega))))⟩
    ·have hp0 := getD_out (P := P) (i := i) (by rw [LP.out]; omega)
     rw [hp0] at hstep pd
     clear hp0
     have hq0 := getD_out (P := Q) (i := i) (by rw [LQ.out]; omega)
     rw [hq0] at hstep qd
     clear hq0
     have hz : c + 0 + 0 = c := by omega
     rw [hz] at hstep
     clear hz
     obtain ⟨pd0, pd1⟩ := pd
     obtain ⟨qd0, qd1⟩ := qd
     have hv0 : 0 ≤ c := by omega
     have HT := Lib.hid hstep
     clear hstep
     go_wp2_with (at_builtin; refine append_int rfl (Operand.tmp 65) (Operand.tmp 68) rfl (w.heap.size + 1 + 1 + 1 + 1) sl i _ rfl HO.out _ rfl (by omega) (by omega) ?_; intro A1 cap1 w1 hown1 hG; have HO1 := Lib.hid hown1; clear hown1; have hB1 : Below w.heap.size w w1 := hB.trans (hG.mono (by omega)); have hgs := hG.size; have g0 := (hG.cell (p := ⟨w.heap.size + 1 + 1 + 1, 0, none⟩) (by (simp; done))).trans c0; have g1 := (hG.cell (p := ⟨w.heap.size + 1 + 1 + 1, 1, none⟩) (by (simp; done))).trans c1; have g2 := (hG.frozen (p := ⟨w.heap.size + 1 + 1 + 1, 0, none⟩) (by simp)).trans f0; have g3 := (hG.frozen (p := ⟨w.heap.size + 1 + 1 + 1, 1, none⟩) (by simp)).trans f1; have g4 := (hG.cell (p := ⟨w.heap.size + 1 + 1, 0, none⟩) (by (simp; done))).trans r0; have g5 := (hG.frozen (p := ⟨w.heap.size + 1 + 1, 0, none⟩) (by (simp; done))).trans rf0; have g6 := (hG.cell (p := ⟨w.heap.size + 1 + 1, 1, none⟩) (by (simp; done))).trans r1; have g7 := (hG.frozen (p := ⟨w.heap.size + 1 + 1, 1, none⟩) (by (simp; done))).trans rf1; have g8 := (hG.cell (p := ⟨w.heap.size, 1, none⟩) (by (simp; omega))).trans ta; have g9 := (hG.cell (p := ⟨w.heap.size + 1, 1, none⟩) (by (simp; done))).trans tb)
     go_roundw
     case rel => exact ⟨(c) / 10000, i + 1, l ++ [(c) % 10000], .slice A1 (i + 1) cap1, (by rfl), (by rfl), by omega, by omega, by omega, by omega, HT.out, (by go_simp), (by go_simp), (by go_simp), (by go_simp), (by rw [List.map_append]; exact own_setCell HO1.out (by simp) _), (by go_simp), (by go_simp), (by simp only [cur_iff, isSome_setCell]; go_simp), (by go_simp), (by simp only [cur_iff, isSome_setCell]; go_simp), (by go_simp), (by ((try simp only [World.size_alloc, World.size_setCell, size_drew, size_drewN]); omega)), (by (repeat first | with_reducible assumption | (with_reducible refine Below.setCell ?_ ?_ _; rotate_left; exact (by (simp; omega)))))⟩
     case measure => first | (simp [intOf]; done) | (simp [intOf]; omega)
end
end Go.Proofs.YthggkidiidnaoaaGreatDoor
