import Derived.Test.YthggkidiidnaoaaGreatDoorKAD
import Derived.Laws.AppendOwn
import Derived.Deep.AppendLies
namespace Go.Proofs.YthggkidiidnaoaaGreatDoor
set_option linter.unusedVariables false
set_option linter.unusedSimpArgs false
section
open Go.RowKit
def Taken2 (P Q : List Int) (c : Int) (i : Nat) (l : List Int) : Prop :=
 l.length = i ∧ Digs l ∧ val l + pw i * (val (P.drop i) - val (Q.drop i) - c) = val P - val Q
theorem taken2_start (P Q : List Int) : Taken2 P Q 0 0 [] := ⟨rfl, fun x hx => (by cases hx), by show 0 + 1 * (val P - val Q - 0) = _; omega⟩
theorem taken2_step {P Q l : List Int} {c v c' : Int} {i : Nat} (h : Taken2 P Q c i l) (h0 : 0 ≤ v) (h1 : v < 10000) (hv : P.getD i 0 - c - Q.getD i 0 = v - 10000 * c') :
  Taken2 P Q c' (i + 1) (l ++ [v]) := by
 obtain ⟨e1, e2, e3⟩ := h
 have d1 := drop_all P i
 have d2 := drop_all Q i
 refine ⟨by rw [List.length_append, e1]; rfl, e2.snoc h0 h1, ?_⟩
 rw [val_snoc, e1, ← e3, pw_succ]
 generalize hX : val (P.drop (i + 1)) - val (Q.drop (i + 1)) - c' = X
 have e : val (P.drop i) - val (Q.drop i) - c = v + 10000 * X := by omega
 rw [e, Int.mul_add, Int.mul_assoc, ← Int.mul_assoc (pw i), Int.mul_comm (pw i) 10000, Int.mul_assoc]
 omega
theorem taken2_end {P Q l : List Int} {c : Int} {i : Nat} (h : Taken2 P Q c i l) (hp : P.length ≤ i) (hq : Q.length ≤ i) (hle : val Q ≤ val P) (hc0 : 0 ≤ c) (hc1 : c ≤ 1) : l.length = i ∧ Digs l ∧ val l = val P - val Q := by
 obtain ⟨h1, h2, h3⟩ := h
 rw [List.drop_of_length_le hp, List.drop_of_length_le hq] at h3
 refine ⟨h1, h2, ?_⟩
 have hb := val_bound h2
 rw [h1] at hb
 have hz : (val [] : Int) - val [] - c = -c := by show (0 : Int) - 0 - c = -c; omega
 rw [hz] at h3
 rcases (show c = 0 ∨ c = 1 by omega) with rfl | rfl
 ·rw [Int.neg_zero, Int.mul_zero] at h3; omega
 ·rw [Int.mul_neg, Int.mul_one] at h3; omega
set_option maxRecDepth 100000 in
set_option maxHeartbeats 8000000 in
theorem plus_down (na nb : Bool) (A B : Option Addr) (n m ca cb : Nat) (P Q : List Int) (w : World) (hne : (na == nb) = false) (hI : IsI w 0 A n P) (hJ : IsI w 0 B m Q) (hn : n ≤ 32) (hm : m ≤ 32) (hP : Canon P) (hQ : Canon Q) (hle : val Q ≤ val P) :
  Calls Tryz.prog 146 #[.agg #[.bool na, .slice A n ca], .agg #[.bool nb, .slice B m cb]] w (RetDigs na (val P - val Q) w) := by
 have HL := Lib.hid (fun W (hb : Below w.heap.size w W) => larger_any na nb A B n m ca cb P Q W (hI.below hb) (hJ.below hb) (by omega) (by omega) hP hQ)
 have hc : (0 : Int) ≤ cmpA (val P) (val Q) := by
  unfold cmpA
  by_cases h : val Q < val P
  ·rw [if_pos h]; decide
  ·rw [if_neg h, if_neg (by omega)]; decide
 generalize cmpA (val P) (val Q) = cc at *
 have hlen : Q.length ≤ P.length := by
  rcases Nat.lt_or_ge P.length Q.length with h | h
  ·have := len_lt_val hP hQ h
   omega
  ·exact h
 have hxy : m ≤ n := by
  have e1 := hI.1
  have e2 := hJ.1
  omega
 have HLE := Lib.hid (show val Q ≤ val P by omega)
 have HI := Lib.hid hI
 have HJ := Lib.hid hJ
 have LP := Lib.hid hI.1
 have LQ := Lib.hid hJ.1
 have HP := Lib.hid hP.1
 have HQ := Lib.hid hQ.1
 clear hI hJ hP hQ hlen hle
 go_enter Tryz.func146, Tryz.ntmps146
 go_wp2_with fail
 refine (HL.out _ (by (repeat first | with_reducible exact Below.refl _ _ | (with_reducible refine Below.alloc ?_ ?_ _; rotate_left; exact (by first | omega | (simp; done) | (simp; omega)))))).mono ?_
 rintro e w1 ⟨rfl, hb⟩
 have hB : Below w.heap.size w w1 := Below.trans (by (repeat first | with_reducible exact Below.refl _ _ | (with_reducible refine Below.alloc ?_ ?_ _; rotate_left; exact (by first | omega | (simp; done) | (simp; omega))))) (hb.mono (by ((try simp only [World.size_alloc, World.size_setCell, size_drew, size_drewN]); omega)))
 obtain ⟨hc1, hf1⟩ := bcell hb
 have hs1 := hb.size
 clear hb HL
 (try simp only [World.size_alloc, World.size_setCell] at hc1 hf1 hs1)
 have hw0 : w.heap.size < w1.heap.size := by omega
 have hw1 : w.heap.size + 1 < w1.heap.size := by omega
 have hw2 : w.heap.size + 1 + 1 < w1.heap.size := by omega
 have x0 : w1.cell? ⟨w.heap.size, 0, none⟩ = some (.bool na) := by go_simp
 have x1 : w1.cell? ⟨w.heap.size, 1, none⟩ = some (.slice A n ca) := by go_simp
 have y0 : w1.cell? ⟨w.heap.size + 1, 0, none⟩ = some (.bool nb) := by go_simp
 have y1 : w1.cell? ⟨w.heap.size + 1, 1, none⟩ = some (.slice B m cb) := by go_simp
 have z0 : w1.cell? ⟨w.heap.size + 1 + 1, 0, none⟩ = some (.bool false) := by go_simp
 have z1 : w1.cell? ⟨w.heap.size + 1 + 1, 1, none⟩ = some (.slice none 0 0) := by go_simp
 have xf0 : w1.frozen? ⟨w.heap.size, 0, none⟩ = false := by go_simp
 have xf1 : w1.frozen? ⟨w.heap.size, 1, none⟩ = false := by go_simp
 have yf0 : w1.frozen? ⟨w.heap.size + 1, 0, none⟩ = false := by go_simp
 have yf1 : w1.frozen? ⟨w.heap.size + 1, 1, none⟩ = false := by go_simp
 have zf0 : w1.frozen? ⟨w.heap.size + 1 + 1, 0, none⟩ = false := by go_simp
 have zf1 : w1.frozen? ⟨w.heap.size + 1 + 1, 1, none⟩ = false := by go_simp
 clear hc1 hf1
 go_wp2_with fail
 go_loopw [10, 11] (fun cv iv wr => ∃ (c : Int) (i : Nat) (l : List Int) (sl : Value), cv = .int .i64 c ∧ iv = .int .i64 i ∧ 0 ≤ c ∧ c ≤ 1 ∧ i ≤ n ∧ Taken2 P Q c i l ∧ wr.cell? ⟨w1.heap.size, 0, none⟩ = some (.bool na) ∧ wr.cell? ⟨w1.heap.size, 1, none⟩ = some sl ∧ wr.frozen? ⟨w1.heap.size, 0, none⟩ = false ∧ wr.frozen? ⟨w1.heap.size, 1, none⟩ = false ∧ wr.ownsRow (w1.heap.size + 1) 3 1 sl i (l.map (Value.int .i64)) ∧ wr.cell? ⟨w.heap.size, 1, none⟩ = some (.slice A n ca) ∧ wr.cell? ⟨w.heap.size + 1, 1, none⟩ = some (.slice B m cb) ∧ (wr).cell? ⟨w.heap.size + 1 + 1, 0, none⟩ = some (cur (wr) ⟨w.heap.size + 1 + 1, 0, none⟩) ∧ (wr).frozen? ⟨w.heap.size + 1 + 1, 0, none⟩ = false ∧ (wr).cell? ⟨w.heap.size + 1 + 1, 1, none⟩ = some (cur (wr) ⟨w.heap.size + 1 + 1, 1, none⟩) ∧ (wr).frozen? ⟨w.heap.size + 1 + 1, 1, none⟩ = false ∧ w1.heap.size < wr.heap.size ∧ Below w.heap.size w wr) (fun _ iv _ => 40 - (intOf iv).toNat)
 case atStart => exact ⟨0, 0, [], .slice none 0 0, rfl, rfl, Int.le_refl _, by omega, Nat.zero_le _, taken2_start P Q, (by go_simp), (by go_simp), (by go_simp), (by go_simp), ⟨rfl, .inl ⟨rfl, rfl⟩⟩, (by go_simp), (by go_simp), (by simp only [cur_iff, isSome_setCell]; go_simp), (by go_simp), (by simp only [cur_iff, isSome_setCell]; go_simp), (by go_simp), (by ((try simp only [World.size_alloc, World.size_setCell, size_drew, size_drewN]); omega)), (by (repeat first | with_reducible assumption | (with_reducible refine Below.alloc ?_ ?_ _; rotate_left; exact (by omega))))⟩
 case round =>
  clear hB x0 x1 y0 y1 z0 z1 xf0 xf1 yf0 yf1 zf0 zf1
  obtain ⟨c, i, l, sl, rfl, rfl, hc0, hc1, hi, hs, c0, c1, f0, f1, hown, ta, tb, r0, rf0, r1, rf1, hsz, hB⟩ := hrel
  generalize w1.heap.size = O at *
  have HO := Lib.hid hown
  have hx0 : w.heap.size < wr.heap.size := by omega
  have hx1 : w.heap.size + 1 < wr.heap.size := by omega
  have hx2 : w.heap.size + 1 + 1 < wr.heap.size := by omega
  have i0 : (0 : Int) ≤ i := by omega
  have pd := digs_getD HP.out i
  have qd := digs_getD HQ.out i
  have hstep := fun v c' => @taken2_step P Q l c v c' i hs
  have HS := Lib.hid hs
  clear hs hown
  by_cases hin : i < n
  ·by_cases him : i < m
   ·obtain ⟨a, ao, rfl, _, ha, hcP⟩ := HI.out.2 (by omega)
    have p0 := (hB.cell (p := ⟨a, ao + i, none⟩) ha).trans (hcP i (by omega))
    have k1 : (i : Int) < n := by omega
    clear hcP
    obtain ⟨b, bo, rfl, _, hb, hcQ⟩ := HJ.out.2 (by omega)
    have q0 := (hB.cell (p := ⟨b, bo + i, none⟩) hb).trans (hcQ i (by omega))
    have k2 : (i : Int) < m := by omega
    clear hcQ
    generalize P.getD i 0 = p at *
    generalize Q.getD i 0 = q at *
    obtain ⟨pd0, pd1⟩ := pd
    obtain ⟨qd0, qd1⟩ := qd
    by_cases hv : p - c - q < 0
    ·have HT := Lib.hid (hstep (p - c - q + 10000) 1 (by omega) (by omega) (by omega))
     clear hstep
     go_wp2_with (at_builtin; refine append_int rfl (Operand.tmp 115) (Operand.tmp 117) rfl (O + 1) sl i _ rfl HO.out _ rfl (by omega) (by omega) ?_; intro A1 cap1 w1 hown1 hG; have HO1 := Lib.hid hown1; clear hown1; have hB1 : Below w.heap.size w w1 := hB.trans (hG.mono (by omega)); have hgs := hG.size; have g0 := (hG.cell (p := ⟨O, 0, none⟩) (by (simp; done))).trans c0; have g1 := (hG.cell (p := ⟨O, 1, none⟩) (by (simp; done))).trans c1; have g2 := (hG.frozen (p := ⟨O, 0, none⟩) (by (simp; done))).trans f0; have g3 := (hG.frozen (p := ⟨O, 1, none⟩) (by (simp; done))).trans f1; have g4 := (hG.cell (p := ⟨w.heap.size + 1 + 1, 0, none⟩) (by (simp; omega))).trans r0; have g5 := (hG.frozen (p := ⟨w.heap.size + 1 + 1, 0, none⟩) (by (simp; omega))).trans rf0; have g6 := (hG.cell (p := ⟨w.heap.size + 1 + 1, 1, none⟩) (by (simp; omega))).trans r1; have g7 := (hG.frozen (p := ⟨w.heap.size + 1 + 1, 1, none⟩) (by (simp; omega))).trans rf1; have g8 := (hG.cell (p := ⟨w.heap.size, 1, none⟩) (by (simp; omega))).trans ta; have g9 := (hG.cell (p := ⟨w.heap.size + 1, 1, none⟩) (by (simp; omega))).trans tb)
     go_roundw
     case rel => exact ⟨1, i + 1, l ++ [p - c - q + 10000], .slice A1 (i + 1) cap1, rfl, (by rfl), by omega, by omega, by omega, HT.out, (by go_simp), (by go_simp), (by go_simp), (by go_simp), (by rw [List.map_append]; exact own_setCell HO1.out (by (simp; done)) _), (by go_simp), (by go_simp), (by simp only [cur_iff, isSome_setCell]; go_simp), (by go_simp), (by simp only [cur_iff, isSome_setCell]; go_simp), (by go_simp), (by ((try simp only [World.size_alloc, World.size_setCell, size_drew, size_drewN]); omega)), (by (repeat first | with_reducible assumption | (with_reducible refine Below.setCell ?_ ?_ _; rotate_left; exact (by (simp; omega)))))⟩
     case measure => first | (simp [intOf]; done) | (simp [intOf]; omega)
    ·have HT := Lib.hid (hstep (p - c - q) 0 (by omega) (by omega) (by omega))
     clear hstep
     go_wp2_with (at_builtin; refine append_int rfl (Operand.tmp 115) (Operand.tmp 117) rfl (O + 1) sl i _ rfl HO.out _ rfl (by omega) (by omega) ?_; intro A1 cap1 w1 hown1 hG; have HO1 := Lib.hid hown1; clear hown1; have hB1 : Below w.heap.size w w1 := hB.trans (hG.mono (by omega)); have hgs := hG.size; have g0 := (hG.cell (p := ⟨O, 0, none⟩) (by (simp; done))).trans c0; have g1 := (hG.cell (p := ⟨O, 1, none⟩) (by (simp; done))).trans c1; have g2 := (hG.frozen (p := ⟨O, 0, none⟩) (by (simp; done))).trans f0; have g3 := (hG.frozen (p := ⟨O, 1, none⟩) (by (simp; done))).trans f1; have g4 := (hG.cell (p := ⟨w.heap.size + 1 + 1, 0, none⟩) (by (simp; omega))).trans r0; have g5 := (hG.frozen (p := ⟨w.heap.size + 1 + 1, 0, none⟩) (by (simp; omega))).trans rf0; have g6 := (hG.cell (p := ⟨w.heap.size + 1 + 1, 1, none⟩) (by (simp; omega))).trans r1; have g7 := (hG.frozen (p := ⟨w.heap.size + 1 + 1, 1, none⟩) (by (simp; omega))).trans rf1; have g8 := (hG.cell (p := ⟨w.heap.size, 1, none⟩) (by (simp; omega))).trans ta; have g9 := (hG.cell (p := ⟨w.heap.size + 1, 1, none⟩) (by (simp; omega))).trans tb)
     go_roundw
     case rel => exact ⟨0, i + 1, l ++ [p - c - q], .slice A1 (i + 1) cap1, rfl, (by rfl), by omega, by omega, by omega, HT.out, (by go_simp), (by go_simp), (by go_simp), (by go_simp), (by rw [List.map_append]; exact own_setCell HO1.out (by (simp; done)) _), (by go_simp), (by go_simp), (by simp only [cur_iff, isSome_setCell]; go_simp), (by go_simp), (by simp only [cur_iff, isSome_setCell]; go_simp), (by go_simp), (by ((try simp only [World.size_alloc, World.size_setCell, size_drew, size_drewN]); omega)), (by (repeat first | with_reducible assumption | (with_reducible refine Below.setCell ?_ ?_ _; rotate_left; exact (by (simp; omega)))))⟩
     case measure => first | (simp [intOf]; done) | (simp [intOf]; omega)
   ·obtain ⟨a, ao, rfl, _, ha, hcP⟩ := HI.out.2 (by omega)
    have p0 := (hB.cell (p := ⟨a, ao + i, none⟩) ha).trans (hcP i (by omega))
    have k1 : (i : Int) < n := by omega
    clear hcP
    have hq0 := getD_out (P := Q) (i := i) (by rw [LQ.out]; omega)
    rw [hq0] at hstep qd
    clear hq0
    generalize P.getD i 0 = p at *
    obtain ⟨pd0, pd1⟩ := pd
    obtain ⟨qd0, qd1⟩ := qd
    by_cases hv : p - c < 0
    ·have HT := Lib.hid (hstep (p - c + 10000) 1 (by omega) (by omega) (by omega))
     clear hstep
     go_wp2_with (at_builtin; refine append_int rfl (Operand.tmp 115) (Operand.tmp 117) rfl (O + 1) sl i _ rfl HO.out _ rfl (by omega) (by omega) ?_; intro A1 cap1 w1 hown1 hG; have HO1 := Lib.hid hown1; clear hown1; have hB1 : Below w.heap.size w w1 := hB.trans (hG.mono (by omega)); have hgs := hG.size; have g0 := (hG.cell (p := ⟨O, 0, none⟩) (by (simp; done))).trans c0; have g1 := (hG.cell (p := ⟨O, 1, none⟩) (by (simp; done))).trans c1; have g2 := (hG.frozen (p := ⟨O, 0, none⟩) (by (simp; done))).trans f0; have g3 := (hG.frozen (p := ⟨O, 1, none⟩) (by (simp; done))).trans f1; have g4 := (hG.cell (p := ⟨w.heap.size + 1 + 1, 0, none⟩) (by (simp; omega))).trans r0; have g5 := (hG.frozen (p := ⟨w.heap.size + 1 + 1, 0, none⟩) (by (simp; omega))).trans rf0; have g6 := (hG.cell (p := ⟨w.heap.size + 1 + 1, 1, none⟩) (by (simp; omega))).trans r1; have g7 := (hG.frozen (p := ⟨w.heap.size + 1 + 1, 1, none⟩) (by (simp; omega))).trans rf1; have g8 := (hG.cell (p := ⟨w.heap.size, 1, none⟩) (by (simp; omega))).trans ta; have g9 := (hG.cell (p := ⟨w.heap.size + 1, 1, none⟩) (by (simp; omega))).trans tb)
     go_roundw
     case rel => exact ⟨1, i + 1, l ++ [p - c + 10000], .slice A1 (i + 1) cap1, rfl, (by rfl), by omega, by omega, by omega, HT.out, (by go_simp), (by go_simp), (by go_simp), (by go_simp), (by rw [List.map_append]; exact own_setCell HO1.out (by (simp; done)) _), (by go_simp), (by go_simp), (by simp only [cur_iff, isSome_setCell]; go_simp), (by go_simp), (by simp only [cur_iff, isSome_setCell]; go_simp), (by go_simp), (by ((try simp only [World.size_alloc, World.size_setCell, size_drew, size_drewN]); omega)), (by (repeat first | with_reducible assumption | (with_reducible refine Below.setCell ?_ ?_ _; rotate_left; exact (by (simp; omega)))))⟩
     case measure => first | (simp [intOf]; done) | (simp [intOf]; omega)
    ·have HT := Lib.hid (hstep (p - c) 0 (by omega) (by omega) (by omega))
     clear hstep
     go_wp2_with (at_builtin; refine append_int rfl (Operand.tmp 115) (Operand.tmp 117) rfl (O + 1) sl i _ rfl HO.out _ rfl (by omega) (by omega) ?_; intro A1 cap1 w1 hown1 hG; have HO1 := Lib.hid hown1; clear hown1; have hB1 : Below w.heap.size w w1 := hB.trans (hG.mono (by omega)); have hgs := hG.size; have g0 := (hG.cell (p := ⟨O, 0, none⟩) (by (simp; done))).trans c0; have g1 := (hG.cell (p := ⟨O, 1, none⟩) (by (simp; done))).trans c1; have g2 := (hG.frozen (p := ⟨O, 0, none⟩) (by (simp; done))).trans f0; have g3 := (hG.frozen (p := ⟨O, 1, none⟩) (by (simp; done))).trans f1; have g4 := (hG.cell (p := ⟨w.heap.size + 1 + 1, 0, none⟩) (by (simp; omega))).trans r0; have g5 := (hG.frozen (p := ⟨w.heap.size + 1 + 1, 0, none⟩) (by (simp; omega))).trans rf0; have g6 := (hG.cell (p := ⟨w.heap.size + 1 + 1, 1, none⟩) (by (simp; omega))).trans r1; have g7 := (hG.frozen (p := ⟨w.heap.size + 1 + 1, 1, none⟩) (by (simp; omega))).trans rf1; have g8 := (hG.cell (p := ⟨w.heap.size, 1, none⟩) (by (simp; omega))).trans ta; have g9 := (hG.cell (p := ⟨w.heap.size + 1, 1, none⟩) (by (simp; omega))).trans tb)
     go_roundw
     case rel => exact ⟨0, i + 1, l ++ [p - c], .slice A1 (i + 1) cap1, rfl, (by rfl), by omega, by omega, by omega, HT.out, (by go_simp), (by go_simp), (by go_simp), (by go_simp), (by rw [List.map_append]; exact own_setCell HO1.out (by (simp; done)) _), (by go_simp), (by go_simp), (by simp only [cur_iff, isSome_setCell]; go_simp), (by go_simp), (by simp only [cur_iff, isSome_setCell]; go_simp), (by go_simp), (by ((try simp only [World.size_alloc, World.size_setCell, size_drew, size_drewN]); omega)), (by (repeat first | with_reducible assumption | (with_reducible refine Below.setCell ?_ ?_ _; rotate_left; exact (by (simp; omega)))))⟩
     case measure => first | (simp [intOf]; done) | (simp [intOf]; omega)
  ·have hend := taken2_end HS.out (by rw [LP.out]; omega) (by rw [LQ.out]; omega) HLE.out hc0 hc1
   obtain ⟨A1, cap1, rfl, hca, hIo⟩ := isI_of_own HO.out
   have HIO := Lib.hid hIo
   have HE := Lib.hid hend
   clear hIo hend hstep HS
   go_wp2_with fail
   refine (trim_any (O + 1) na _ i cap1 l _ HIO.out hca (by omega) HE.out.2.1).mono ?_
   rintro e w1 ⟨A', k', cap', rfl, hI', q1, q2, q3, q4, hb⟩
   have HI' := Lib.hid hI'
   have H3 := Lib.hid q3
   have H4 := Lib.hid q4
   have g0 := (hb.cell (p := ⟨w.heap.size + 1 + 1, 0, none⟩) (by omega)).trans r0
   have g1 := (hb.cell (p := ⟨w.heap.size + 1 + 1, 1, none⟩) (by omega)).trans r1
   have g2 := (hb.frozen (p := ⟨w.heap.size + 1 + 1, 0, none⟩) (by omega)).trans rf0
   have g3 := (hb.frozen (p := ⟨w.heap.size + 1 + 1, 1, none⟩) (by omega)).trans rf1
   have hB1 : Below w.heap.size w w1 := hB.trans (hb.mono (by omega))
   clear hI' q3 q4 hb r0 r1 rf0 rf1
   go_wp2
   exact bodyPost_ret (res2b Tryz.results146 _ _ _ _ _ rfl (by (try simp only [isSome_setCell]); first | assumption | go_simp) (by (try simp only [isSome_setCell]); first | assumption | go_simp)) rfl ⟨A', k', cap', l.take k', rfl, ((HI'.out.setCell (by (simp; omega)) _).setCell (by (simp; omega)) _).mono (by omega), q1, by omega, H3.out, by rw [H4.out, HE.out.2.2], by (repeat first | with_reducible assumption | (with_reducible refine Below.setCell ?_ ?_ _; rotate_left; exact (by (simp; omega))))⟩
set_option maxRecDepth 100000 in
set_option maxHeartbeats 8000000 in
theorem plus_up (na nb : Bool) (A B : Option Addr) (n m ca cb : Nat) (P Q : List Int) (w : World) (hne : (na == nb) = false) (hI : IsI w 0 A n P) (hJ : IsI w 0 B m Q) (hn : n ≤ 32) (hm : m ≤ 32) (hP : Canon P) (hQ : Canon Q) (hlt : val P < val Q) :
  Calls Tryz.prog 146 #[.agg #[.bool na, .slice A n ca], .agg #[.bool nb, .slice B m cb]] w (RetDigs nb (val Q - val P) w) := by
 have HL := Lib.hid (fun W (hb : Below w.heap.size w W) => larger_any na nb A B n m ca cb P Q W (hI.below hb) (hJ.below hb) (by omega) (by omega) hP hQ)
 have hc : cmpA (val P) (val Q) = -1 := by unfold cmpA; rw [if_neg (by omega), if_pos hlt]
 rw [hc] at HL
 have hlen : P.length ≤ Q.length := by
  rcases Nat.lt_or_ge Q.length P.length with h | h
  ·have := len_lt_val hQ hP h
   omega
  ·exact h
 have hxy : n ≤ m := by
  have e1 := hI.1
  have e2 := hJ.1
  omega
 have HLE := Lib.hid (show val P ≤ val Q by omega)
 have HI := Lib.hid hI
 have HJ := Lib.hid hJ
 have LP := Lib.hid hI.1
 have LQ := Lib.hid hJ.1
 have HP := Lib.hid hP.1
 have HQ := Lib.hid hQ.1
 clear hI hJ hP hQ hlen hc hlt
 go_enter Tryz.func146, Tryz.ntmps146
 go_wp2_with fail
 refine (HL.out _ (by (repeat first | with_reducible exact Below.refl _ _ | (with_reducible refine Below.alloc ?_ ?_ _; rotate_left; exact (by first | omega | (simp; done) | (simp; omega)))))).mono ?_
 rintro e w1 ⟨rfl, hb⟩
 have hB : Below w.heap.size w w1 := Below.trans (by (repeat first | with_reducible exact Below.refl _ _ | (with_reducible refine Below.alloc ?_ ?_ _; rotate_left; exact (by first | omega | (simp; done) | (simp; omega))))) (hb.mono (by ((try simp only [World.size_alloc, World.size_setCell, size_drew, size_drewN]); omega)))
 obtain ⟨hc1, hf1⟩ := bcell hb
 have hs1 := hb.size
 clear hb HL
 (try simp only [World.size_alloc, World.size_setCell] at hc1 hf1 hs1)
 have hw0 : w.heap.size < w1.heap.size := by omega
 have hw1 : w.heap.size + 1 < w1.heap.size := by omega
 have hw2 : w.heap.size + 1 + 1 < w1.heap.size := by omega
 have x0 : w1.cell? ⟨w.heap.size, 0, none⟩ = some (.bool na) := by go_simp
 have x1 : w1.cell? ⟨w.heap.size, 1, none⟩ = some (.slice A n ca) := by go_simp
 have y0 : w1.cell? ⟨w.heap.size + 1, 0, none⟩ = some (.bool nb) := by go_simp
 have y1 : w1.cell? ⟨w.heap.size + 1, 1, none⟩ = some (.slice B m cb) := by go_simp
 have z0 : w1.cell? ⟨w.heap.size + 1 + 1, 0, none⟩ = some (.bool false) := by go_simp
 have z1 : w1.cell? ⟨w.heap.size + 1 + 1, 1, none⟩ = some (.slice none 0 0) := by go_simp
 have xf0 : w1.frozen? ⟨w.heap.size, 0, none⟩ = false := by go_simp
 have xf1 : w1.frozen? ⟨w.heap.size, 1, none⟩ = false := by go_simp
 have yf0 : w1.frozen? ⟨w.heap.size + 1, 0, none⟩ = false := by go_simp
 have yf1 : w1.frozen? ⟨w.heap.size + 1, 1, none⟩ = false := by go_simp
 have zf0 : w1.frozen? ⟨w.heap.size + 1 + 1, 0, none⟩ = false := by go_simp
 have zf1 : w1.frozen? ⟨w.heap.size + 1 + 1, 1, none⟩ = false := by go_simp
 clear hc1 hf1
 go_wp2_with fail
 go_loopw [10, 11] (fun cv iv wr => ∃ (c : Int) (i : Nat) (l : List Int) (sl : Value), cv = .int .i64 c ∧ iv = .int .i64 i ∧ 0 ≤ c ∧ c ≤ 1 ∧ i ≤ m ∧ Taken2 Q P c i l ∧ wr.cell? ⟨w1.heap.size, 0, none⟩ = some (.bool nb) ∧ wr.cell? ⟨w1.heap.size, 1, none⟩ = some sl ∧ wr.frozen? ⟨w1.heap.size, 0, none⟩ = false ∧ wr.frozen? ⟨w1.heap.size, 1, none⟩ = false ∧ wr.ownsRow (w1.heap.size + 1) 3 1 sl i (l.map (Value.int .i64)) ∧ wr.cell? ⟨w.heap.size, 1, none⟩ = some (.slice B m cb) ∧ wr.cell? ⟨w.heap.size + 1, 1, none⟩ = some (.slice A n ca) ∧ (wr).cell? ⟨w.heap.size + 1 + 1, 0, none⟩ = some (cur (wr) ⟨w.heap.size + 1 + 1, 0, none⟩) ∧ (wr).frozen? ⟨w.heap.size + 1 + 1, 0, none⟩ = false ∧ (wr).cell? ⟨w.heap.size + 1 + 1, 1, none⟩ = some (cur (wr) ⟨w.heap.size + 1 + 1, 1, none⟩) ∧ (wr).frozen? ⟨w.heap.size + 1 + 1, 1, none⟩ = false ∧ w1.heap.size < wr.heap.size ∧ Below w.heap.size w wr) (fun _ iv _ => 40 - (intOf iv).toNat)
 case atStart => exact ⟨0, 0, [], .slice none 0 0, rfl, rfl, Int.le_refl _, by omega, Nat.zero_le _, taken2_start Q P, (by go_simp), (by go_simp), (by go_simp), (by go_simp), ⟨rfl, .inl ⟨rfl, rfl⟩⟩, (by go_simp), (by go_simp), (by simp only [cur_iff, isSome_setCell]; go_simp), (by go_simp), (by simp only [cur_iff, isSome_setCell]; go_simp), (by go_simp), (by ((try simp only [World.size_alloc, World.size_setCell, size_drew, size_drewN]); omega)), (by (repeat first | with_reducible assumption | (with_reducible refine Below.setCell ?_ ?_ _; rotate_left; exact (by (simp; done))) | (with_reducible refine Below.alloc ?_ ?_ _; rotate_left; exact (by (simp; omega)))))⟩
 case round =>
  clear hB x0 x1 y0 y1 z0 z1 xf0 xf1 yf0 yf1 zf0 zf1
  obtain ⟨c, i, l, sl, rfl, rfl, hc0, hc1, hi, hs, c0, c1, f0, f1, hown, ta, tb, r0, rf0, r1, rf1, hsz, hB⟩ := hrel
  generalize w1.heap.size = O at *
  have HO := Lib.hid hown
  have hx0 : w.heap.size < wr.heap.size := by omega
  have hx1 : w.heap.size + 1 < wr.heap.size := by omega
  have hx2 : w.heap.size + 1 + 1 < wr.heap.size := by omega
  have i0 : (0 : Int) ≤ i := by omega
  have pd := digs_getD HQ.out i
  have qd := digs_getD HP.out i
  have hstep := fun v c' => @taken2_step Q P l c v c' i hs
  have HS := Lib.hid hs
  clear hs hown
  by_cases hin : i < m
  ·by_cases him : i < n
   ·obtain ⟨a, ao, rfl, _, ha, hcP⟩ := HJ.out.2 (by omega)
    have p0 := (hB.cell (p := ⟨a, ao + i, none⟩) ha).trans (hcP i (by omega))
    have k1 : (i : Int) < m := by omega
    clear hcP
    obtain ⟨b, bo, rfl, _, hb, hcQ⟩ := HI.out.2 (by omega)
    have q0 := (hB.cell (p := ⟨b, bo + i, none⟩) hb).trans (hcQ i (by omega))
    have k2 : (i : Int) < n := by omega
    clear hcQ
    generalize Q.getD i 0 = p at *
    generalize P.getD i 0 = q at *
    obtain ⟨pd0, pd1⟩ := pd
    obtain ⟨qd0, qd1⟩ := qd
    by_cases hv : p - c - q < 0
    ·have HT := Lib.hid (hstep (p - c - q + 10000) 1 (by omega) (by omega) (by omega))
     clear hstep
     go_wp2_with (at_builtin; refine append_int rfl (Operand.tmp 115) (Operand.tmp 117) rfl (O + 1) sl i _ rfl HO.out _ rfl (by omega) (by omega) ?_; intro A1 cap1 w1 hown1 hG; have HO1 := Lib.hid hown1; clear hown1; have hB1 : Below w.heap.size w w1 := hB.trans (hG.mono (by omega)); have hgs := hG.size; have g0 := (hG.cell (p := ⟨O, 0, none⟩) (by (simp; done))).trans c0; have g1 := (hG.cell (p := ⟨O, 1, none⟩) (by (simp; done))).trans c1; have g2 := (hG.frozen (p := ⟨O, 0, none⟩) (by (simp; done))).trans f0; have g3 := (hG.frozen (p := ⟨O, 1, none⟩) (by (simp; done))).trans f1; have g4 := (hG.cell (p := ⟨w.heap.size + 1 + 1, 0, none⟩) (by (simp; omega))).trans r0; have g5 := (hG.frozen (p := ⟨w.heap.size + 1 + 1, 0, none⟩) (by (simp; omega))).trans rf0; have g6 := (hG.cell (p := ⟨w.heap.size + 1 + 1, 1, none⟩) (by (simp; omega))).trans r1; have g7 := (hG.frozen (p := ⟨w.heap.size + 1 + 1, 1, none⟩) (by (simp; omega))).trans rf1; have g8 := (hG.cell (p := ⟨w.heap.size, 1, none⟩) (by (simp; omega))).trans ta; have g9 := (hG.cell (p := ⟨w.heap.size + 1, 1, none⟩) (by (simp; omega))).trans tb)
     go_roundw
     case rel => exact ⟨1, i + 1, l ++ [p - c - q + 10000], .slice A1 (i + 1) cap1, rfl, (by rfl), by omega, by omega, by omega, HT.out, (by go_simp), (by go_simp), (by go_simp), (by go_simp), (by rw [List.map_append]; exact own_setCell HO1.out (by (simp; done)) _), (by go_simp), (by go_simp), (by simp only [cur_iff, isSome_setCell]; go_simp), (by go_simp), (by simp only [cur_iff, isSome_setCell]; go_simp), (by go_simp), (by ((try simp only [World.size_alloc, World.size_setCell, size_drew, size_drewN]); omega)), (by (repeat first | with_reducible assumption | (with_reducible refine Below.setCell ?_ ?_ _; rotate_left; exact (by (simp; omega)))))⟩
     case measure => first | (simp [intOf]; done) | (simp [intOf]; omega)
    ·have HT := Lib.hid (hstep (p - c - q) 0 (by omega) (by omega) (by omega))
     clear hstep
     go_wp2_with (at_builtin; refine append_int rfl (Operand.tmp 115) (Operand.tmp 117) rfl (O + 1) sl i _ rfl HO.out _ rfl (by omega) (by omega) ?_; intro A1 cap1 w1 hown1 hG; have HO1 := Lib.hid hown1; clear hown1; have hB1 : Below w.heap.size w w1 := hB.trans (hG.mono (by omega)); have hgs := hG.size; have g0 := (hG.cell (p := ⟨O, 0, none⟩) (by (simp; done))).trans c0; have g1 := (hG.cell (p := ⟨O, 1, none⟩) (by (simp; done))).trans c1; have g2 := (hG.frozen (p := ⟨O, 0, none⟩) (by (simp; done))).trans f0; have g3 := (hG.frozen (p := ⟨O, 1, none⟩) (by (simp; done))).trans f1; have g4 := (hG.cell (p := ⟨w.heap.size + 1 + 1, 0, none⟩) (by (simp; omega))).trans r0; have g5 := (hG.frozen (p := ⟨w.heap.size + 1 + 1, 0, none⟩) (by (simp; omega))).trans rf0; have g6 := (hG.cell (p := ⟨w.heap.size + 1 + 1, 1, none⟩) (by (simp; omega))).trans r1; have g7 := (hG.frozen (p := ⟨w.heap.size + 1 + 1, 1, none⟩) (by (simp; omega))).trans rf1; have g8 := (hG.cell (p := ⟨w.heap.size, 1, none⟩) (by (simp; omega))).trans ta; have g9 := (hG.cell (p := ⟨w.heap.size + 1, 1, none⟩) (by (simp; omega))).trans tb)
     go_roundw
     case rel => exact ⟨0, i + 1, l ++ [p - c - q], .slice A1 (i + 1) cap1, rfl, (by rfl), by omega, by omega, by omega, HT.out, (by go_simp), (by go_simp), (by go_simp), (by go_simp), (by rw [List.map_append]; exact own_setCell HO1.out (by (simp; done)) _), (by go_simp), (by go_simp), (by simp only [cur_iff, isSome_setCell]; go_simp), (by go_simp), (by simp only [cur_iff, isSome_setCell]; go_simp), (by go_simp), (by ((try simp only [World.size_alloc, World.size_setCell, size_drew, size_drewN]); omega)), (by (repeat first | with_reducible assumption | (with_reducible refine Below.setCell ?_ ?_ _; rotate_left; exact (by (simp; omega)))))⟩
     case measure => first | (simp [intOf]; done) | (simp [intOf]; omega)
   ·obtain ⟨a, ao, rfl, _, ha, hcP⟩ := HJ.out.2 (by omega)
    have p0 := (hB.cell (p := ⟨a, ao + i, none⟩) ha).trans (hcP i (by omega))
    have k1 : (i : Int) < m := by omega
    clear hcP
    have hq0 := getD_out (P := P) (i := i) (by rw [LP.out]; omega)
    rw [hq0] at hstep qd
    clear hq0
    generalize Q.getD i 0 = p at *
    obtain ⟨pd0, pd1⟩ := pd
    obtain ⟨qd0, qd1⟩ := qd
    by_cases hv : p - c < 0
    ·have HT := Lib.hid (hstep (p - c + 10000) 1 (by omega) (by omega) (by omega))
     clear hstep
     go_wp2_with (at_builtin; refine append_int rfl (Operand.tmp 115) (Operand.tmp 117) rfl (O + 1) sl i _ rfl HO.out _ rfl (by omega) (by omega) ?_; intro A1 cap1 w1 hown1 hG; have HO1 := Lib.hid hown1; clear hown1; have hB1 : Below w.heap.size w w1 := hB.trans (hG.mono (by omega)); have hgs := hG.size; have g0 := (hG.cell (p := ⟨O, 0, none⟩) (by (simp; done))).trans c0; have g1 := (hG.cell (p := ⟨O, 1, none⟩) (by (simp; done))).trans c1; have g2 := (hG.frozen (p := ⟨O, 0, none⟩) (by (simp; done))).trans f0; have g3 := (hG.frozen (p := ⟨O, 1, none⟩) (by (simp; done))).trans f1; have g4 := (hG.cell (p := ⟨w.heap.size + 1 + 1, 0, none⟩) (by (simp; omega))).trans r0; have g5 := (hG.frozen (p := ⟨w.heap.size + 1 + 1, 0, none⟩) (by (simp; omega))).trans rf0; have g6 := (hG.cell (p := ⟨w.heap.size + 1 + 1, 1, none⟩) (by (simp; omega))).trans r1; have g7 := (hG.frozen (p := ⟨w.heap.size + 1 + 1, 1, none⟩) (by (simp; omega))).trans rf1; have g8 := (hG.cell (p := ⟨w.heap.size, 1, none⟩) (by (simp; omega))).trans ta; have g9 := (hG.cell (p := ⟨w.heap.size + 1, 1, none⟩) (by (simp; omega))).trans tb)
     go_roundw
     case rel => exact ⟨1, i + 1, l ++ [p - c + 10000], .slice A1 (i + 1) cap1, rfl, (by rfl), by omega, by omega, by omega, HT.out, (by go_simp), (by go_simp), (by go_simp), (by go_simp), (by rw [List.map_append]; exact own_setCell HO1.out (by (simp; done)) _), (by go_simp), (by go_simp), (by simp only [cur_iff, isSome_setCell]; go_simp), (by go_simp), (by simp only [cur_iff, isSome_setCell]; go_simp), (by go_simp), (by ((try simp only [World.size_alloc, World.size_setCell, size_drew, size_drewN]); omega)), (by (repeat first | with_reducible assumption | (with_reducible refine Below.setCell ?_ ?_ _; rotate_left; exact (by (simp; omega)))))⟩
     case measure => first | (simp [intOf]; done) | (simp [intOf]; omega)
    ·have HT := Lib.hid (hstep (p - c) 0 (by omega) (by omega) (by omega))
     clear hstep
     go_wp2_with (at_builtin; refine append_int rfl (Operand.tmp 115) (Operand.tmp 117) rfl (O + 1) sl i _ rfl HO.out _ rfl (by omega) (by omega) ?_; intro A1 cap1 w1 hown1 hG; have HO1 := Lib.hid hown1; clear hown1; have hB1 : Below w.heap.size w w1 := hB.trans (hG.mono (by omega)); have hgs := hG.size; have g0 := (hG.cell (p := ⟨O, 0, none⟩) (by (simp; done))).trans c0; have g1 := (hG.cell (p := ⟨O, 1, none⟩) (by (simp; done))).trans c1; have g2 := (hG.frozen (p := ⟨O, 0, none⟩) (by (simp; done))).trans f0; have g3 := (hG.frozen (p := ⟨O, 1, none⟩) (by (simp; done))).trans f1; have g4 := (hG.cell (p := ⟨w.heap.size + 1 + 1, 0, none⟩) (by (simp; omega))).trans r0; have g5 := (hG.frozen (p := ⟨w.heap.size + 1 + 1, 0, none⟩) (by (simp; omega))).trans rf0; have g6 := (hG.cell (p := ⟨w.heap.size + 1 + 1, 1, none⟩) (by (simp; omega))).trans r1; have g7 := (hG.frozen (p := ⟨w.heap.size + 1 + 1, 1, none⟩) (by (simp; omega))).trans rf1; have g8 := (hG.cell (p := ⟨w.heap.size, 1, none⟩) (by (simp; omega))).trans ta; have g9 := (hG.cell (p := ⟨w.heap.size + 1, 1, none⟩) (by (simp; omega))).trans tb)
     go_roundw
     case rel => exact ⟨0, i + 1, l ++ [p - c], .slice A1 (i + 1) cap1, rfl, (by rfl), by omega, by omega, by omega, HT.out, (by go_simp), (by go_simp), (by go_simp), (by go_simp), (by rw [List.map_append]; exact own_setCell HO1.out (by (simp; done)) _), (by go_simp), (by go_simp), (by simp only [cur_iff, isSome_setCell]; go_simp), (by go_simp), (by simp only [cur_iff, isSome_setCell]; go_simp), (by go_simp), (by ((try simp only [World.size_alloc, World.size_setCell, size_drew, size_drewN]); omega)), (by (repeat first | with_reducible assumption | (with_reducible refine Below.setCell ?_ ?_ _; rotate_left; exact (by (simp; omega)))))⟩
     case measure => first | (simp [intOf]; done) | (simp [intOf]; omega)
  ·have hend := taken2_end HS.out (by rw [LQ.out]; omega) (by rw [LP.out]; omega) HLE.out hc0 hc1
   obtain ⟨A1, cap1, rfl, hca, hIo⟩ := isI_of_own HO.out
   have HIO := Lib.hid hIo
   have HE := Lib.hid hend
   clear hIo hend hstep HS
   go_wp2_with fail
   refine (trim_any (O + 1) nb _ i cap1 l _ HIO.out hca (by omega) HE.out.2.1).mono ?_
   rintro e w1 ⟨A', k', cap', rfl, hI', q1, q2, q3, q4, hb⟩
   have HI' := Lib.hid hI'
   have H3 := Lib.hid q3
   have H4 := Lib.hid q4
   have g0 := (hb.cell (p := ⟨w.heap.size + 1 + 1, 0, none⟩) (by omega)).trans r0
   have g1 := (hb.cell (p := ⟨w.heap.size + 1 + 1, 1, none⟩) (by omega)).trans r1
   have g2 := (hb.frozen (p := ⟨w.heap.size + 1 + 1, 0, none⟩) (by omega)).trans rf0
   have g3 := (hb.frozen (p := ⟨w.heap.size + 1 + 1, 1, none⟩) (by omega)).trans rf1
   have hB1 : Below w.heap.size w w1 := hB.trans (hb.mono (by omega))
   clear hI' q3 q4 hb r0 r1 rf0 rf1
   go_wp2
   exact bodyPost_ret (res2b Tryz.results146 _ _ _ _ _ rfl (by (try simp only [isSome_setCell]); first | assumption | go_simp) (by (try simp only [isSome_setCell]); first | assumption | go_simp)) rfl ⟨A', k', cap', l.take k', rfl, ((HI'.out.setCell (by (simp; omega)) _).setCell (by (simp; omega)) _).mono (by omega), q1, by omega, H3.out, by rw [H4.out, HE.out.2.2], by (repeat first | with_reducible assumption | (with_reducible refine Below.setCell ?_ ?_ _; rotate_left; exact (by (simp; omega))))⟩
end
section
open Go.RowKit
theorem big_of_digs {neg : Bool} {z t : Int} {w w' : World} {e : Ending} (h : RetDigs neg z w e w') (hz : 0 ≤ z) (ht : t = if neg = true then -z else z) : RetNew w.heap.size t w e w' := by
 obtain ⟨A, k, cap, R, rfl, hI, h1, h2, h3, h4, h5⟩ := h
 refine ⟨_, rfl, ⟨A, k, cap, R, ?_, hI, h1, h2, h3, ?_⟩, h5⟩
 ·have hn := canon_nil h3
  have hk : 0 < k ↔ z ≠ 0 := by
   rw [← h4, ← hI.1]
   constructor
   ·intro h0 h6
    rw [hn.1 h6] at h0
    exact absurd h0 (by decide)
   ·intro h0
    rcases Nat.eq_zero_or_pos R.length with h6 | h6
    ·exact absurd (hn.2 (List.eq_nil_of_length_eq_zero h6)) h0
    ·exact h6
  have e : (neg && decide (0 < k)) = decide (t < 0) := by
   cases neg
   ·rw [if_neg (by decide)] at ht
    simp; omega
   ·rw [if_pos rfl] at ht
    rw [Bool.true_and]
    by_cases h0 : z = 0
    ·rw [decide_eq_false (by rw [hk]; exact fun h => h h0), decide_eq_false (by omega)]
    ·rw [decide_eq_true (hk.2 h0), decide_eq_true (by omega)]
  rw [e]
 ·cases neg
  ·rw [if_neg (by decide)] at ht
   omega
  ·rw [if_pos rfl] at ht
   omega
theorem plus_new (a b : Int) (u v : Value) (w : World) (hu : BigV w u a) (hv : BigV w v b) (ha : max a (-a) < pw 32) (hb : max b (-b) < pw 32) :
  Calls Tryz.prog 146 #[u, v] w (RetNew w.heap.size (a + b) w) := by
 obtain ⟨A, n, ca, P, rfl, h1, h2, h3, h4, h5⟩ := hu
 obtain ⟨B, m, cb, Q, rfl, k1, k2, k3, k4, k5⟩ := hv
 have ln := len_le_of_val h4 (n := 32) (by rw [h5]; exact ha)
 have lm := len_le_of_val k4 (n := 32) (by rw [k5]; exact hb)
 rw [h1.1] at ln
 rw [k1.1] at lm
 have p0 := (val_bound h4.1).1
 have q0 := (val_bound k4.1).1
 by_cases hs : decide (a < 0) = decide (b < 0)
 ·rw [← hs]
  refine (plus_same (decide (a < 0)) A B n m ca cb (max n m) P Q w h1 k1 (by omega) (by omega) (by omega) (by omega) h4.1 k4.1).mono ?_
  intro e w' h
  refine big_of_digs h (by omega) ?_
  by_cases h6 : a < 0
  ·rw [decide_eq_true h6] at hs ⊢
   have h7 : b < 0 := of_decide_eq_true hs.symm
   rw [if_pos rfl]; omega
  ·rw [decide_eq_false h6] at hs ⊢
   have h7 : ¬b < 0 := of_decide_eq_false hs.symm
   rw [if_neg (by decide)]; omega
 ·have hne : (decide (a < 0) == decide (b < 0)) = false := by simpa using hs
  have hab : (a < 0 ∧ ¬b < 0) ∨ (¬a < 0 ∧ b < 0) := by
   by_cases h6 : a < 0
   ·by_cases h7 : b < 0
    ·exact absurd (by rw [decide_eq_true h6, decide_eq_true h7]) hs
    ·exact .inl ⟨h6, h7⟩
   ·by_cases h7 : b < 0
    ·exact .inr ⟨h6, h7⟩
    ·exact absurd (by rw [decide_eq_false h6, decide_eq_false h7]) hs
  by_cases hle : val Q ≤ val P
  ·refine (plus_down _ _ A B n m ca cb P Q w hne h1 k1 ln lm h4 k4 hle).mono ?_
   intro e w' h
   refine big_of_digs h (by omega) ?_
   rcases hab with ⟨h6, h7⟩ | ⟨h6, h7⟩
   ·rw [decide_eq_true h6, if_pos rfl]; omega
   ·rw [decide_eq_false h6, if_neg (by decide)]; omega
  ·refine (plus_up _ _ A B n m ca cb P Q w hne h1 k1 ln lm h4 k4 (by omega)).mono ?_
   intro e w' h
   refine big_of_digs h (by omega) ?_
   rcases hab with ⟨h6, h7⟩ | ⟨h6, h7⟩
   ·rw [decide_eq_false h7, if_neg (by decide)]; omega
   ·rw [decide_eq_true h7, if_pos rfl]; omega
theorem plus_big (a b : Int) (u v : Value) (w : World) (hu : BigV w u a) (hv : BigV w v b) (ha : max a (-a) < pw 32) (hb : max b (-b) < pw 32) :
  Calls Tryz.prog 146 #[u, v] w (RetBig (a + b) w) :=
 (plus_new a b u v w hu hv ha hb).mono fun _ _ h => h.big
end
section
open Go.RowKit
end
section
open Go.RowKit
def DivI (P O : List Int) (B : Int) (i : Nat) (R : Int) : Prop :=
 O.length = P.length ∧ Digs O ∧ 0 ≤ R ∧ R < B ∧ val (P.drop i) = B * val (O.drop i) + R
theorem digs_zeros (n : Nat) : Digs (List.replicate n 0) := fun d h => by
 rw [(List.mem_replicate.1 h).2]; exact ⟨by decide, by decide⟩
theorem digs_set {O : List Int} {k : Nat} {v : Int} (h : Digs O) (h0 : 0 ≤ v) (h1 : v < 10000) : Digs (O.set k v) := fun d hd => by
 rcases List.mem_or_eq_of_mem_set hd with h2 | h2
 ·exact h d h2
 ·rw [h2]; exact ⟨h0, h1⟩
theorem divI_start (P : List Int) (B : Int) (hB : 0 < B) : DivI P (List.replicate P.length 0) B P.length 0 := by
 refine ⟨by simp, digs_zeros _, Int.le_refl _, hB, ?_⟩
 rw [List.drop_eq_nil_of_le (Nat.le_refl _), List.drop_eq_nil_of_le (by simp)]
 show (0 : Int) = B * 0 + 0
 omega
theorem divI_step {P O : List Int} {B R q : Int} {k : Nat} (hk : k < P.length) (h : DivI P O B (k + 1) R) (h0 : 0 ≤ q) (h1 : q < 10000)
  (l : B * q ≤ P.getD k 0 + 10000 * R) (u : P.getD k 0 + 10000 * R < B * (q + 1)) : DivI P (O.set k q) B k (P.getD k 0 + 10000 * R - B * q) := by
 obtain ⟨a, b, c, d, e⟩ := h
 refine ⟨by rw [List.length_set, a], digs_set b h0 h1, by omega, by rw [Int.mul_add, Int.mul_one] at u; omega, ?_⟩
 have hkO : k < (O.set k q).length := by rw [List.length_set, a]; exact hk
 rw [drop_step P k hk, drop_step (O.set k q) k hkO, e]
 have e1 : (O.set k q).getD k 0 = q := by
  rw [getD_set _ _ _ _ (by rw [a]; exact hk), if_pos rfl]
 have e2 : (O.set k q).drop (k + 1) = O.drop (k + 1) := by
  rw [List.drop_set, if_pos (by omega)]
 rw [e1, e2, Int.mul_add B q, ← Int.mul_assoc B 10000, Int.mul_comm B 10000, Int.mul_assoc 10000 B, Int.mul_add]
 omega
theorem divI_end {P O : List Int} {B R : Int} (h : DivI P O B 0 R) : val O = val P / B ∧ R = val P % B := by
 obtain ⟨a, b, c, d, e⟩ := h
 rw [List.drop_zero, List.drop_zero] at e
 rw [e, Int.mul_add_ediv_left _ _ (by omega), Int.ediv_eq_zero_of_lt c d, Int.add_zero, Int.mul_add_emod_self_left, Int.emod_eq_of_lt c d]
 exact ⟨rfl, rfl⟩
theorem ediv_neg_up (m B : Int) (hB : 0 < B) : (-m) / B = -(m / B + if 0 < m % B then 1 else 0) := by
 have e := Int.mul_ediv_add_emod m B
 have m0 := Int.emod_nonneg m (show B ≠ 0 by omega)
 have m1 := Int.emod_lt_of_pos m hB
 by_cases h : 0 < m % B
 ·rw [if_pos h]
  have e1 : -m = (B - m % B) + B * -(m / B + 1) := by rw [Int.mul_neg, Int.mul_add, Int.mul_one]; omega
  rw [e1, Int.add_mul_ediv_left _ _ (show B ≠ 0 by omega), Int.ediv_eq_zero_of_lt (by omega) (by omega), Int.zero_add]
 ·rw [if_neg h]
  have e1 : -m = B * -(m / B) := by rw [Int.mul_neg]; omega
  rw [e1, Int.mul_ediv_cancel_left _ (show B ≠ 0 by omega), Int.add_zero]
theorem floor_same {a b : Int} (hb : b ≠ 0) (h : (decide (a < 0) == decide (b < 0)) = true ∨ a = 0) : max a (-a) / max b (-b) = flo a b := by
 unfold flo
 rcases h with h | h
 ·have h := beq_iff_eq.1 h
  by_cases h0 : b < 0
  ·have : a < 0 := by rw [decide_eq_true h0] at h; exact of_decide_eq_true h
   rw [if_neg (by omega), show max a (-a) = -a by omega, show max b (-b) = -b by omega]
  ·have : ¬a < 0 := by rw [decide_eq_false h0] at h; exact of_decide_eq_false h
   rw [if_pos (by omega), show max a (-a) = a by omega, show max b (-b) = b by omega]
 ·subst h
  split <;> simp
theorem floor_diff {a b : Int} (hb : b ≠ 0) (h : (decide (a < 0) == decide (b < 0)) = false) : -(max a (-a) / max b (-b) + if 0 < max a (-a) % max b (-b) then 1 else 0) = flo a b := by
 rw [← ediv_neg_up _ _ (show 0 < max b (-b) by omega)]
 unfold flo
 have h := beq_eq_false_iff_ne.1 h
 by_cases h0 : b < 0
 ·have : ¬a < 0 := fun h1 => h (by rw [decide_eq_true h0, decide_eq_true h1])
  rw [if_neg (show ¬0 < b by omega), show max a (-a) = a by omega, show max b (-b) = -b by omega]
 ·have : a < 0 := by
   rcases Int.lt_or_le a 0 with h1 | h1
   ·exact h1
   ·exact absurd (by rw [decide_eq_false h0, decide_eq_false (by omega)]) h
  rw [if_pos (show 0 < b by omega), show max a (-a) = -a by omega, show max b (-b) = b by omega, Int.neg_neg]
set_option maxRecDepth 100000 in
theorem prepend_step {ops : Array Oper} {o : Oper} {a : Act} {K : Act → World → Prop} {Q : Exit → Act → World → Prop} {E : Prop} (w : World) (hgd : o.guard = none) (s x : Operand)
  (ho : o.op = .call { callee := .builtin .append, args := #[s, x], argTypes := #[30, 30] })
  (g : Nat) (d : Int) (hs : a.eval s = .slice (some ⟨g, 0, none⟩) 1 1) (hblk : w.heap[g]? = some (.cells #[.int .i64 d] 3 (0, 0)))
  (A : Option Addr) (k c : Nat) (R : List Int) (hx : a.eval x = .slice A k c) (hR : IsI w 0 A k R) (hk : k ≤ 64)
  (h : ∀ (A' : Option Addr) (cap' : Nat) w', IsI w' g A' (k + 1) (d :: R) → k + 1 ≤ cap' → Below g w w' → K (a.put o.dst (.slice A' (k + 1) cap')) w') :
  if Region.wanted o (yielded ops a.tmps) = true then Oper.wp Tryz.prog o a w K Q else E := by
 have hw : Region.wanted o (yielded ops a.tmps) = true := by simp [Region.wanted, hgd]
 rw [if_pos hw]
 have hlt : g < w.heap.size := by
  rcases Nat.lt_or_ge g w.heap.size with h1 | h1
  ·exact h1
  ·rw [Array.getElem?_eq_none h1] at hblk; cases hblk
 have hown : w.ownsRow g 3 1 (.slice (some ⟨g, 0, none⟩) 1 1) 1 [.int .i64 d] :=
  ⟨rfl, .inr ⟨g, 1, #[.int .i64 d], rfl, Nat.le_refl _, hblk, Nat.le_refl _, by decide, rfl, rfl⟩⟩
 have hI0 : (Tryz.prog.info? 3).map (fun i => (i.zero, i.size, i.bytes)) = some (some (.int .i64 0), 1, 8) := by kernel_rfl
 obtain ⟨i0, hi, hz0, hz1, hz2⟩ := info_parts hI0
 have fin : ∀ v' w', w'.ownsRow g 3 1 v' (1 + k) ([.int .i64 d] ++ R.map (Value.int .i64)) → w.grownBy w' (Value.slice (some ⟨g, 0, none⟩) 1 1).ownBlock → K (a.put o.dst v') w' := by
  intro v' w' h2 h3
  obtain ⟨A', cap', rfl, hc, hI⟩ := isI_of_own (P := d :: R) h2
  rw [Nat.add_comm 1 k] at hI hc ⊢
  exact h A' cap' w' hI hc (below_grownB (Below.refl _ _) hown h3 (by omega))
 rcases A with _ | ad
 ·have k0 : k = 0 := by
   rcases Nat.eq_zero_or_pos k with h1 | h1
   ·exact h1
   ·obtain ⟨b, ob, e, _⟩ := hR.2 h1
    cases e
  subst k0
  have hr : (Builtin.append_ #[30, 30] o.type #[.slice (some ⟨g, 0, none⟩) 1 1, .slice none 0 c]).run Tryz.prog w = .ok (.slice (some ⟨g, 0, none⟩) 1 1) w := by
   simp [Builtin.append_, run_underlying Tryz.underlying30, sizeOf, typeInfo, hi, Builtin.lenOf, Builtin.firstCells, storeCells]
  unfold Oper.wp execOp
  simp only [ho, resolve, invoke, builtin, Sem.run_bind, Sem.run_pure, Result.andThen_ok, List.map_toArray, List.map_cons, List.map_nil, hs, hx, hr]
  have hl : R = [] := List.eq_nil_of_length_eq_zero hR.1
  subst hl
  exact h (some ⟨g, 0, none⟩) 1 w ⟨rfl, fun _ => ⟨g, 0, rfl, Nat.le_refl _, hlt, fun j hj => by
   rw [cell_of_row w g (0 + j) _ _ _ hblk]
   rw [show j = 0 by omega]
   rfl⟩⟩ (Nat.le_refl _) (Below.refl _ _)
 ·refine wp_append_own w s x 30 ho g 3 i0 (.int .i64 0) 1 8 Tryz.underlying30 hi hz0 hz1 hz2 rfl (by decide) _ 1 _ hs hown ad k c (R.map (Value.int .i64)) hx (by rw [List.length_map, hR.1]; omega) (fun j u hu => ?_) (fun u hu => ?_) (by unfold maxLen; omega) (by omega) (by omega) (fun v' w' h2 h3 _ => fin v' w' h2 h3)
  ·obtain ⟨hj, hju⟩ := List.getElem?_eq_some_iff.1 hu
   rw [List.length_map, hR.1] at hj
   obtain ⟨b, ob, e, _, _, hc⟩ := hR.2 (by omega)
   injection e with e
   subst e
   have hadd : (⟨b, ob, none⟩ : Addr).add j = ⟨b, ob + j, none⟩ := by unfold Addr.add; split <;> simp_all
   rw [hadd, hc j hj, ← hju, List.getElem_map, List.getD_eq_getElem?_getD, List.getElem?_eq_getElem (by rw [hR.1]; exact hj)]
   rfl
  ·obtain ⟨n, _, rfl⟩ := List.mem_map.1 hu
   rfl
end
section
open Go.RowKit
structure EW (w wr : World) (x y : Nat) (u0 u1 v0 v1 : Value) : Prop where
 x0 : wr.cell? ⟨x, 0, none⟩ = some u0
 x1 : wr.cell? ⟨x, 1, none⟩ = some u1
 y0 : wr.cell? ⟨y, 0, none⟩ = some v0
 y1 : wr.cell? ⟨y, 1, none⟩ = some v1
 fx0 : wr.frozen? ⟨x, 0, none⟩ = false
 fx1 : wr.frozen? ⟨x, 1, none⟩ = false
 fy0 : wr.frozen? ⟨y, 0, none⟩ = false
 fy1 : wr.frozen? ⟨y, 1, none⟩ = false
 r0 : (wr.cell? ⟨w.heap.size, 0, none⟩).isSome = true
 r1 : (wr.cell? ⟨w.heap.size, 1, none⟩).isSome = true
 r2 : (wr.cell? ⟨w.heap.size + 1, 0, none⟩).isSome = true
 r3 : (wr.cell? ⟨w.heap.size + 1, 1, none⟩).isSome = true
 f0 : wr.frozen? ⟨w.heap.size, 0, none⟩ = false
 f1 : wr.frozen? ⟨w.heap.size, 1, none⟩ = false
 f2 : wr.frozen? ⟨w.heap.size + 1, 0, none⟩ = false
 f3 : wr.frozen? ⟨w.heap.size + 1, 1, none⟩ = false
 hx : w.heap.size + 1 < x
 hy : w.heap.size + 1 < y
 hxy : x ≠ y
 lx : x < wr.heap.size
 ly : y < wr.heap.size
 hB : Below w.heap.size w wr
theorem EW.drew {w wr : World} {x y : Nat} {u0 u1 v0 v1 : Value} (h : EW w wr x y u0 u1 v0 v1) : EW w wr.drew x y u0 u1 v0 v1 :=
 ⟨h.x0, h.x1, h.y0, h.y1, h.fx0, h.fx1, h.fy0, h.fy1, h.r0, h.r1, h.r2, h.r3, h.f0, h.f1, h.f2, h.f3, h.hx, h.hy, h.hxy, h.lx, h.ly, h.hB.drew⟩
theorem EW.call {w wr w1 : World} {x y : Nat} {u0 u1 v0 v1 : Value} (h : EW w wr x y u0 u1 v0 v1) (hb : Below wr.heap.size wr w1) : EW w w1 x y u0 u1 v0 v1 := by
 have lx := h.lx
 have ly := h.ly
 have hx := h.hx
 have c : ∀ b o, b < wr.heap.size → w1.cell? ⟨b, o, none⟩ = wr.cell? ⟨b, o, none⟩ := fun b o hh => hb.cell (p := ⟨b, o, none⟩) hh
 have f : ∀ b o, b < wr.heap.size → w1.frozen? ⟨b, o, none⟩ = wr.frozen? ⟨b, o, none⟩ := fun b o hh => hb.frozen (p := ⟨b, o, none⟩) hh
 have hs := hb.size
 refine ⟨?_, ?_, ?_, ?_, ?_, ?_, ?_, ?_, ?_, ?_, ?_, ?_, ?_, ?_, ?_, ?_, h.hx, h.hy, h.hxy, by omega, by omega, h.hB.trans (hb.mono h.hB.size)⟩
 ·rw [c _ _ lx]; exact h.x0
 ·rw [c _ _ lx]; exact h.x1
 ·rw [c _ _ ly]; exact h.y0
 ·rw [c _ _ ly]; exact h.y1
 ·rw [f _ _ lx]; exact h.fx0
 ·rw [f _ _ lx]; exact h.fx1
 ·rw [f _ _ ly]; exact h.fy0
 ·rw [f _ _ ly]; exact h.fy1
 ·rw [c _ _ (by omega)]; exact h.r0
 ·rw [c _ _ (by omega)]; exact h.r1
 ·rw [c _ _ (by omega)]; exact h.r2
 ·rw [c _ _ (by omega)]; exact h.r3
 ·rw [f _ _ (by omega)]; exact h.f0
 ·rw [f _ _ (by omega)]; exact h.f1
 ·rw [f _ _ (by omega)]; exact h.f2
 ·rw [f _ _ (by omega)]; exact h.f3
theorem set_two {W : World} {b : Nat} {p q u v : Value} (h0 : W.cell? ⟨b, 0, none⟩ = some u) (h1 : W.cell? ⟨b, 1, none⟩ = some v) :
  ((W.setCell ⟨b, 0, none⟩ p).setCell ⟨b, 1, none⟩ q).cell? ⟨b, 0, none⟩ = some p ∧ ((W.setCell ⟨b, 0, none⟩ p).setCell ⟨b, 1, none⟩ q).cell? ⟨b, 1, none⟩ = some q := by
 have n1 : (⟨b, 1, none⟩ : Addr) ≠ ⟨b, 0, none⟩ := by simp
 refine ⟨(World.cell?_setCell_other _ _ _ _ n1).trans (World.cell?_setCell_same' _ _ _ (by rw [h0]; rfl)), World.cell?_setCell_same' _ _ _ (by rw [isSome_setCell, h1]; rfl)⟩
theorem set_far {W : World} {b c o : Nat} {p q : Value} (h : b ≠ c) : ((W.setCell ⟨b, 0, none⟩ p).setCell ⟨b, 1, none⟩ q).cell? ⟨c, o, none⟩ = W.cell? ⟨c, o, none⟩ := by
 rw [World.cell?_setCell_other _ _ _ _ (by simp [h]), World.cell?_setCell_other _ _ _ _ (by simp [h])]
end
end Go.Proofs.YthggkidiidnaoaaGreatDoor
