import Derived.Test.YthggkidiidnaoaaGreatWAA
import Derived.Test.YthggkidiidnaoaaGreatWAF
import Derived.WalkSpells
import Derived.WalkLawsBesides
namespace Go.Proofs.YthggkidiidnaoaaGreat
set_option linter.unusedVariables false
set_option linter.unusedSimpArgs false
section
open Go.RowKit
theorem drop_all (P : List Int) (k : Nat) : val (P.drop k) = P.getD k 0 + 10000 * val (P.drop (k + 1)) := by
 rcases Nat.lt_or_ge k P.length with h | h
 ·exact drop_step P k h
 ·rw [List.drop_of_length_le h, List.drop_of_length_le om9, List.getD_eq_getElem?_getD, List.getElem?_eq_none h]
  rfl
def Summed (P Q : List Int) (c : Int) (i : Nat) (l : List Int) : Prop :=
 l.length = i ∧ Digs l ∧ val l + pw i * (c + val (P.drop i) + val (Q.drop i)) = val P + val Q
theorem summed_start (P Q : List Int) : Summed P Q 0 0 [] := ⟨rfl, fun x hx => (by cases hx), by show 0 + 1 * (0 + val P + val Q) = _; omega⟩
theorem summed_step {P Q l : List Int} {c : Int} {i : Nat} (h : Summed P Q c i l) (hv : 0 ≤ c + P.getD i 0 + Q.getD i 0) :
  Summed P Q ((c + P.getD i 0 + Q.getD i 0) / 10000) (i + 1) (l ++ [(c + P.getD i 0 + Q.getD i 0) % 10000]) := by
 obtain ⟨h1, h2, h3⟩ := h
 have e1 := drop_all P i
 have e2 := drop_all Q i
 have m0 := Int.emod_nonneg (c + P.getD i 0 + Q.getD i 0) (show (10000 : Int) ≠ 0 by decide)
 have m1 := Int.emod_lt_of_pos (c + P.getD i 0 + Q.getD i 0) (show (0 : Int) < 10000 by decide)
 refine ⟨by rw [List.length_append, h1]; rfl, h2.snoc m0 m1, ?_⟩
 rw [val_snoc, h1, ← h3, pw_succ]
 generalize hX : (c + P.getD i 0 + Q.getD i 0) / 10000 + val (P.drop (i + 1)) + val (Q.drop (i + 1)) = X
 have e : c + val (P.drop i) + val (Q.drop i) = (c + P.getD i 0 + Q.getD i 0) % 10000 + 10000 * X := by omega
 rw [e, Int.mul_add, Int.mul_assoc, ← Int.mul_assoc (pw i), Int.mul_comm (pw i) 10000, Int.mul_assoc]
 omega
theorem summed_end {P Q l : List Int} {i : Nat} (h : Summed P Q 0 i l) (hp : P.length ≤ i) (hq : Q.length ≤ i) : l.length = i ∧ Digs l ∧ val l = val P + val Q := by
 obtain ⟨h1, h2, h3⟩ := h
 rw [List.drop_of_length_le hp, List.drop_of_length_le hq] at h3
 refine ⟨h1, h2, ?_⟩
 rw [← h3]
 show val l = val l + pw i * (0 + 0 + 0)
 rw [show (0 : Int) + 0 + 0 = 0 by rfl, Int.mul_zero]
 omega
theorem getD_out {P : List Int} {i : Nat} (h : P.length ≤ i) : P.getD i 0 = 0 := by
 rw [List.getD_eq_getElem?_getD, List.getElem?_eq_none h]
 rfl
def RetDigs (neg : Bool) (z : Int) (w : World) (e : Ending) (w' : World) : Prop :=
 ∃ (A : Option Addr) (k cap : Nat) (R : List Int), e = .returned (.agg #[.bool (neg && decide (0 < k)), .slice A k cap]) ∧ IsI w' w.heap.size A k R ∧ k ≤ cap ∧ k ≤ 64 ∧ Canon R ∧ val R = z ∧ Below w.heap.size w w'
set_option maxRecDepth 100000 in
set_option maxHeartbeats 8000000 in
theorem plus_same (neg : Bool) (A B : Option Addr) (n m ca cb mx : Nat) (P Q : List Int) (w : World) (hI : IsI w 0 A n P) (hJ : IsI w 0 B m Q) (hn : n ≤ mx) (hm : m ≤ mx) (hmx : mx ≤ 32) (hmx1 : mx ≤ n ∨ mx ≤ m) (hP : Digs P) (hQ : Digs Q) :
  Calls Tryz.prog 134 #[.agg #[.bool neg, .slice A n ca], .agg #[.bool neg, .slice B m cb]] w (RetDigs neg (val P + val Q) w) := by
 have HI := Lib.hid hI
 have HJ := Lib.hid hJ
 have LP := Lib.hid hI.1
 have LQ := Lib.hid hJ.1
 have HP := Lib.hid hP
 have HQ := Lib.hid hQ
 have hbb : (neg == neg) = true := by simp
 clear hI hJ hP hQ
 go_enter Tryz.func134, Tryz.ntmps134
 go_wp2_with fail
 go_loopw [6, 7] (fun cv iv wr => ∃ (c : Int) (i : Nat) (l : List Int) (sl : Value), cv = .int .i64 c ∧ iv = .int .i64 i ∧ 0 ≤ c ∧ c ≤ 1 ∧ i ≤ mx + 1 ∧ (i = mx + 1 → c = 0) ∧ Summed P Q c i l ∧ wr.cell? ⟨w.heap.size + 1 + 1 + 1, 0, none⟩ = some (.bool neg) ∧ wr.cell? ⟨w.heap.size + 1 + 1 + 1, 1, none⟩ = some sl ∧ wr.frozen? ⟨w.heap.size + 1 + 1 + 1, 0, none⟩ = false ∧ wr.frozen? ⟨w.heap.size + 1 + 1 + 1, 1, none⟩ = false ∧ wr.ownsRow (w.heap.size + 1 + 1 + 1 + 1) 3 1 sl i (l.map (Value.int .i64)) ∧ wr.cell? ⟨w.heap.size, 1, none⟩ = some (.slice A n ca) ∧ wr.cell? ⟨w.heap.size + 1, 1, none⟩ = some (.slice B m cb) ∧ (wr).cell? ⟨w.heap.size + 1 + 1, 0, none⟩ = some (cur (wr) ⟨w.heap.size + 1 + 1, 0, none⟩) ∧ (wr).frozen? ⟨w.heap.size + 1 + 1, 0, none⟩ = false ∧ (wr).cell? ⟨w.heap.size + 1 + 1, 1, none⟩ = some (cur (wr) ⟨w.heap.size + 1 + 1, 1, none⟩) ∧ (wr).frozen? ⟨w.heap.size + 1 + 1, 1, none⟩ = false ∧ w.heap.size + 1 + 1 + 1 < wr.heap.size ∧ Below w.heap.size w wr) (fun _ iv _ => 40 - (intOf iv).toNat)
 case atStart => exact ⟨0, 0, [], .slice none 0 0, rfl, rfl, Int.le_refl _, by omega, by omega, fun _ => rfl, summed_start P Q, (by go_simp), (by go_simp), (by go_simp), (by go_simp), ⟨rfl, .inl ⟨rfl, rfl⟩⟩, (by go_simp), (by go_simp), (by simp only [cur_iff, isSome_setCell]; go_simp), (by go_simp), (by simp only [cur_iff, isSome_setCell]; go_simp), (by go_simp), (by ((try simp only [World.size_alloc, World.size_setCell, size_drew, size_drewN]); omega)), (by (repeat first | with_reducible exact Below.refl _ _ | (with_reducible refine Below.alloc ?_ ?_ _; rotate_left; exact (by first | omega | (simp; done) | (simp; omega)))))⟩
 case round =>
  obtain ⟨c, i, l, sl, rfl, rfl, hc0, hc1, hi, hic, hs, c0, c1, f0, f1, hown, ta, tb, r0, rf0, r1, rf1, hsz, hB⟩ := hrel
  have HO := Lib.hid hown
  have hw0 : w.heap.size < wr.heap.size := by omega
  have hw1 : w.heap.size + 1 < wr.heap.size := by omega
  have hw2 : w.heap.size + 1 + 1 < wr.heap.size := by omega
  have i0 : (0 : Int) ≤ i := by omega
  have pd := digs_getD HP.out i
  have qd := digs_getD HQ.out i
  have hstep := summed_step hs om9
  have HS := Lib.hid hs
  clear hs hown
  by_cases hin : i < n
  ·by_cases him : i < m
   ·obtain ⟨a, ao, rfl, _, ha, hcP⟩ := HI.out.2 om9
    have p0 := (hB.cell (p := ⟨a, ao + i, none⟩) ha).trans (hcP i om9)
    have k1 : (i : Int) < n := by omega
    clear hcP
    obtain ⟨b, bo, rfl, _, hb, hcQ⟩ := HJ.out.2 om9
    have q0 := (hB.cell (p := ⟨b, bo + i, none⟩) hb).trans (hcQ i om9)
    have k2 : (i : Int) < m := by omega
    clear hcQ
    generalize P.getD i 0 = p at *
    generalize Q.getD i 0 = q at *
    obtain ⟨pd0, pd1⟩ := pd
    obtain ⟨qd0, qd1⟩ := qd
    have hv0 : 0 ≤ c + p + q := by omega
    have HT := Lib.hid hstep
    clear hstep
    go_wp2_with (at_builtin; refine append_int rfl (Operand.tmp 65) (Operand.tmp 68) rfl (w.heap.size + 1 + 1 + 1 + 1) sl i _ rfl HO.out _ rfl om9 om9 ?_; intro A1 cap1 w1 hown1 hG; have HO1 := Lib.hid hown1; clear hown1; have hB1 : Below w.heap.size w w1 := hB.trans (hG.mono om9); have hgs := hG.size; have g0 := (hG.cell (p := ⟨w.heap.size + 1 + 1 + 1, 0, none⟩) (by (simp; done))).trans c0; have g1 := (hG.cell (p := ⟨w.heap.size + 1 + 1 + 1, 1, none⟩) (by (simp; done))).trans c1; have g2 := (hG.frozen (p := ⟨w.heap.size + 1 + 1 + 1, 0, none⟩) (by simp)).trans f0; have g3 := (hG.frozen (p := ⟨w.heap.size + 1 + 1 + 1, 1, none⟩) (by simp)).trans f1; have g4 := (hG.cell (p := ⟨w.heap.size + 1 + 1, 0, none⟩) (by (simp; done))).trans r0; have g5 := (hG.frozen (p := ⟨w.heap.size + 1 + 1, 0, none⟩) (by (simp; done))).trans rf0; have g6 := (hG.cell (p := ⟨w.heap.size + 1 + 1, 1, none⟩) (by (simp; done))).trans r1; have g7 := (hG.frozen (p := ⟨w.heap.size + 1 + 1, 1, none⟩) (by (simp; done))).trans rf1; have g8 := (hG.cell (p := ⟨w.heap.size, 1, none⟩) (by (simp; omega))).trans ta; have g9 := (hG.cell (p := ⟨w.heap.size + 1, 1, none⟩) (by (simp; done))).trans tb)
    go_roundw
    case rel => exact ⟨(c + p + q) / 10000, i + 1, l ++ [(c + p + q) % 10000], .slice A1 (i + 1) cap1, (by rfl), (by rfl), by omega, by omega, by omega, by omega, HT.out, (by go_simp), (by go_simp), (by go_simp), (by go_simp), (by rw [List.map_append]; exact own_setCell HO1.out (by simp) _), (by go_simp), (by go_simp), (by simp only [cur_iff, isSome_setCell]; go_simp), (by go_simp), (by simp only [cur_iff, isSome_setCell]; go_simp), (by go_simp), (by ((try simp only [World.size_alloc, World.size_setCell, size_drew, size_drewN]); omega)), (by (repeat first | with_reducible assumption | (with_reducible refine Below.setCell ?_ ?_ _; rotate_left; exact (by (simp; omega)))))⟩
    case measure => first | (simp [intOf]; done) | (simp [intOf]; omega)
   ·obtain ⟨a, ao, rfl, _, ha, hcP⟩ := HI.out.2 om9
    have p0 := (hB.cell (p := ⟨a, ao + i, none⟩) ha).trans (hcP i om9)
    have k1 : (i : Int) < n := by omega
    clear hcP
    have hq0 := getD_out (P := Q) (i := i) (by rw [LQ.out]; omega)
    rw [hq0] at hstep qd
    clear hq0
    have hz : c + P.getD i 0 + 0 = c + P.getD i 0 := by omega
    rw [hz] at hstep
    clear hz
    generalize P.getD i 0 = p at *
    obtain ⟨pd0, pd1⟩ := pd
    obtain ⟨qd0, qd1⟩ := qd
    have hv0 : 0 ≤ c + p := by omega
    have HT := Lib.hid hstep
    clear hstep
    go_wp2_with (at_builtin; refine append_int rfl (Operand.tmp 65) (Operand.tmp 68) rfl (w.heap.size + 1 + 1 + 1 + 1) sl i _ rfl HO.out _ rfl om9 om9 ?_; intro A1 cap1 w1 hown1 hG; have HO1 := Lib.hid hown1; clear hown1; have hB1 : Below w.heap.size w w1 := hB.trans (hG.mono om9); have hgs := hG.size; have g0 := (hG.cell (p := ⟨w.heap.size + 1 + 1 + 1, 0, none⟩) (by (simp; done))).trans c0; have g1 := (hG.cell (p := ⟨w.heap.size + 1 + 1 + 1, 1, none⟩) (by (simp; done))).trans c1; have g2 := (hG.frozen (p := ⟨w.heap.size + 1 + 1 + 1, 0, none⟩) (by simp)).trans f0; have g3 := (hG.frozen (p := ⟨w.heap.size + 1 + 1 + 1, 1, none⟩) (by simp)).trans f1; have g4 := (hG.cell (p := ⟨w.heap.size + 1 + 1, 0, none⟩) (by (simp; done))).trans r0; have g5 := (hG.frozen (p := ⟨w.heap.size + 1 + 1, 0, none⟩) (by (simp; done))).trans rf0; have g6 := (hG.cell (p := ⟨w.heap.size + 1 + 1, 1, none⟩) (by (simp; done))).trans r1; have g7 := (hG.frozen (p := ⟨w.heap.size + 1 + 1, 1, none⟩) (by (simp; done))).trans rf1; have g8 := (hG.cell (p := ⟨w.heap.size, 1, none⟩) (by (simp; omega))).trans ta; have g9 := (hG.cell (p := ⟨w.heap.size + 1, 1, none⟩) (by (simp; done))).trans tb)
    go_roundw
    case rel => exact ⟨(c + p) / 10000, i + 1, l ++ [(c + p) % 10000], .slice A1 (i + 1) cap1, (by rfl), (by rfl), by omega, by omega, by omega, by omega, HT.out, (by go_simp), (by go_simp), (by go_simp), (by go_simp), (by rw [List.map_append]; exact own_setCell HO1.out (by simp) _), (by go_simp), (by go_simp), (by simp only [cur_iff, isSome_setCell]; go_simp), (by go_simp), (by simp only [cur_iff, isSome_setCell]; go_simp), (by go_simp), (by ((try simp only [World.size_alloc, World.size_setCell, size_drew, size_drewN]); omega)), (by (repeat first | with_reducible assumption | (with_reducible refine Below.setCell ?_ ?_ _; rotate_left; exact (by (simp; omega)))))⟩
    case measure => first | (simp [intOf]; done) | (simp [intOf]; omega)
  ·by_cases him : i < m
   ·have hp0 := getD_out (P := P) (i := i) (by rw [LP.out]; omega)
    rw [hp0] at hstep pd
    clear hp0
    obtain ⟨b, bo, rfl, _, hb, hcQ⟩ := HJ.out.2 om9
    have q0 := (hB.cell (p := ⟨b, bo + i, none⟩) hb).trans (hcQ i om9)
    have k2 : (i : Int) < m := by omega
    clear hcQ
    have hz : c + 0 + Q.getD i 0 = c + Q.getD i 0 := by omega
    rw [hz] at hstep
    clear hz
    generalize Q.getD i 0 = q at *
    obtain ⟨pd0, pd1⟩ := pd
    obtain ⟨qd0, qd1⟩ := qd
    have hv0 : 0 ≤ c + q := by omega
    have HT := Lib.hid hstep
    clear hstep
    go_wp2_with (at_builtin; refine append_int rfl (Operand.tmp 65) (Operand.tmp 68) rfl (w.heap.size + 1 + 1 + 1 + 1) sl i _ rfl HO.out _ rfl om9 om9 ?_; intro A1 cap1 w1 hown1 hG; have HO1 := Lib.hid hown1; clear hown1; have hB1 : Below w.heap.size w w1 := hB.trans (hG.mono om9); have hgs := hG.size; have g0 := (hG.cell (p := ⟨w.heap.size + 1 + 1 + 1, 0, none⟩) (by (simp; done))).trans c0; have g1 := (hG.cell (p := ⟨w.heap.size + 1 + 1 + 1, 1, none⟩) (by (simp; done))).trans c1; have g2 := (hG.frozen (p := ⟨w.heap.size + 1 + 1 + 1, 0, none⟩) (by simp)).trans f0; have g3 := (hG.frozen (p := ⟨w.heap.size + 1 + 1 + 1, 1, none⟩) (by simp)).trans f1; have g4 := (hG.cell (p := ⟨w.heap.size + 1 + 1, 0, none⟩) (by (simp; done))).trans r0; have g5 := (hG.frozen (p := ⟨w.heap.size + 1 + 1, 0, none⟩) (by (simp; done))).trans rf0; have g6 := (hG.cell (p := ⟨w.heap.size + 1 + 1, 1, none⟩) (by (simp; done))).trans r1; have g7 := (hG.frozen (p := ⟨w.heap.size + 1 + 1, 1, none⟩) (by (simp; done))).trans rf1; have g8 := (hG.cell (p := ⟨w.heap.size, 1, none⟩) (by (simp; omega))).trans ta; have g9 := (hG.cell (p := ⟨w.heap.size + 1, 1, none⟩) (by (simp; done))).trans tb)
    go_roundw
    case rel => exact ⟨(c + q) / 10000, i + 1, l ++ [(c + q) % 10000], .slice A1 (i + 1) cap1, (by rfl), (by rfl), by omega, by omega, by omega, by omega, HT.out, (by go_simp), (by go_simp), (by go_simp), (by go_simp), (by rw [List.map_append]; exact own_setCell HO1.out (by simp) _), (by go_simp), (by go_simp), (by simp only [cur_iff, isSome_setCell]; go_simp), (by go_simp), (by simp only [cur_iff, isSome_setCell]; go_simp), (by go_simp), (by ((try simp only [World.size_alloc, World.size_setCell, size_drew, size_drewN]); omega)), (by (repeat first | with_reducible assumption | (with_reducible refine Below.setCell ?_ ?_ _; rotate_left; exact (by (simp; omega)))))⟩
    case measure => first | (simp [intOf]; done) | (simp [intOf]; omega)
   ·by_cases hcz : c = 0
    ·subst hcz
     have hend := summed_end HS.out (by rw [LP.out]; omega) (by rw [LQ.out]; omega)
     obtain ⟨A1, cap1, rfl, hca, hIo⟩ := isI_of_own HO.out
     have HIO := Lib.hid hIo
     have HE := Lib.hid hend
     clear hIo hend hstep HS
     go_wp2_with fail
     refine (trim_any (w.heap.size + 1 + 1 + 1 + 1) neg _ i cap1 l _ HIO.out hca om9 HE.out.2.1).mono ?_
     rintro e w1 ⟨A', k', cap', rfl, hI', q1, q2, q3, q4, hb⟩
     have HI' := Lib.hid hI'
     have H3 := Lib.hid q3
     have H4 := Lib.hid q4
     have g0 := (hb.cell (p := ⟨w.heap.size + 1 + 1, 0, none⟩) om9).trans r0
     have g1 := (hb.cell (p := ⟨w.heap.size + 1 + 1, 1, none⟩) om9).trans r1
     have g2 := (hb.frozen (p := ⟨w.heap.size + 1 + 1, 0, none⟩) om9).trans rf0
     have g3 := (hb.frozen (p := ⟨w.heap.size + 1 + 1, 1, none⟩) om9).trans rf1
     have hB1 : Below w.heap.size w w1 := hB.trans (hb.mono om9)
     clear hI' q3 q4 hb r0 r1 rf0 rf1
     go_wp2
     exact bodyPost_ret (res2b Tryz.results134 _ _ _ _ _ rfl (by (try simp only [isSome_setCell]); first | assumption | go_simp) (by (try simp only [isSome_setCell]); first | assumption | go_simp)) rfl ⟨A', k', cap', l.take k', rfl, ((HI'.out.setCell (by (simp; done)) _).setCell (by (simp; done)) _).mono om9, q1, by omega, H3.out, by rw [H4.out, HE.out.2.2], by (repeat first | with_reducible assumption | (with_reducible refine Below.setCell ?_ ?_ _; rotate_left; exact (by (simp; omega))))⟩
    ·have hp0 := getD_out (P := P) (i := i) (by rw [LP.out]; omega)
     rw [hp0] at hstep pd
     clear hp0
     have hq0 := getD_out (P := Q) (i := i) (by rw [LQ.out]; omega)
     rw [hq0] at hstep qd
     clear hq0
     have hz : c + 0 + 0 = c := by omega
     rw [hz] at hstep
     clear hz
     obtain ⟨pd0, pd1⟩ := pd
     obtain ⟨qd0, qd1⟩ := qd
     have hv0 : 0 ≤ c := by omega
     have HT := Lib.hid hstep
     clear hstep
     go_wp2_with (at_builtin; refine append_int rfl (Operand.tmp 65) (Operand.tmp 68) rfl (w.heap.size + 1 + 1 + 1 + 1) sl i _ rfl HO.out _ rfl om9 om9 ?_; intro A1 cap1 w1 hown1 hG; have HO1 := Lib.hid hown1; clear hown1; have hB1 : Below w.heap.size w w1 := hB.trans (hG.mono om9); have hgs := hG.size; have g0 := (hG.cell (p := ⟨w.heap.size + 1 + 1 + 1, 0, none⟩) (by (simp; done))).trans c0; have g1 := (hG.cell (p := ⟨w.heap.size + 1 + 1 + 1, 1, none⟩) (by (simp; done))).trans c1; have g2 := (hG.frozen (p := ⟨w.heap.size + 1 + 1 + 1, 0, none⟩) (by simp)).trans f0; have g3 := (hG.frozen (p := ⟨w.heap.size + 1 + 1 + 1, 1, none⟩) (by simp)).trans f1; have g4 := (hG.cell (p := ⟨w.heap.size + 1 + 1, 0, none⟩) (by (simp; done))).trans r0; have g5 := (hG.frozen (p := ⟨w.heap.size + 1 + 1, 0, none⟩) (by (simp; done))).trans rf0; have g6 := (hG.cell (p := ⟨w.heap.size + 1 + 1, 1, none⟩) (by (simp; done))).trans r1; have g7 := (hG.frozen (p := ⟨w.heap.size + 1 + 1, 1, none⟩) (by (simp; done))).trans rf1; have g8 := (hG.cell (p := ⟨w.heap.size, 1, none⟩) (by (simp; omega))).trans ta; have g9 := (hG.cell (p := ⟨w.heap.size + 1, 1, none⟩) (by (simp; done))).trans tb)
     go_roundw
     case rel => exact ⟨(c) / 10000, i + 1, l ++ [(c) % 10000], .slice A1 (i + 1) cap1, (by rfl), (by rfl), by omega, by omega, by omega, by omega, HT.out, (by go_simp), (by go_simp), (by go_simp), (by go_simp), (by rw [List.map_append]; exact own_setCell HO1.out (by simp) _), (by go_simp), (by go_simp), (by simp only [cur_iff, isSome_setCell]; go_simp), (by go_simp), (by simp only [cur_iff, isSome_setCell]; go_simp), (by go_simp), (by ((try simp only [World.size_alloc, World.size_setCell, size_drew, size_drewN]); omega)), (by (repeat first | with_reducible assumption | (with_reducible refine Below.setCell ?_ ?_ _; rotate_left; exact (by (simp; omega)))))⟩
     case measure => first | (simp [intOf]; done) | (simp [intOf]; omega)
end
section
open Go.RowKit
def Taken2 (P Q : List Int) (c : Int) (i : Nat) (l : List Int) : Prop :=
 l.length = i ∧ Digs l ∧ val l + pw i * (val (P.drop i) - val (Q.drop i) - c) = val P - val Q
theorem taken2_start (P Q : List Int) : Taken2 P Q 0 0 [] := ⟨rfl, fun x hx => (by cases hx), by show 0 + 1 * (val P - val Q - 0) = _; omega⟩
theorem taken2_step {P Q l : List Int} {c v c' : Int} {i : Nat} (h : Taken2 P Q c i l) (h0 : 0 ≤ v) (h1 : v < 10000) (hv : P.getD i 0 - c - Q.getD i 0 = v - 10000 * c') :
  Taken2 P Q c' (i + 1) (l ++ [v]) := by
 obtain ⟨e1, e2, e3⟩ := h
 have d1 := drop_all P i
 have d2 := drop_all Q i
 refine ⟨by rw [List.length_append, e1]; rfl, e2.snoc h0 h1, ?_⟩
 rw [val_snoc, e1, ← e3, pw_succ]
 generalize hX : val (P.drop (i + 1)) - val (Q.drop (i + 1)) - c' = X
 have e : val (P.drop i) - val (Q.drop i) - c = v + 10000 * X := by omega
 rw [e, Int.mul_add, Int.mul_assoc, ← Int.mul_assoc (pw i), Int.mul_comm (pw i) 10000, Int.mul_assoc]
 omega
theorem taken2_end {P Q l : List Int} {c : Int} {i : Nat} (h : Taken2 P Q c i l) (hp : P.length ≤ i) (hq : Q.length ≤ i) (hle : val Q ≤ val P) (hc0 : 0 ≤ c) (hc1 : c ≤ 1) : l.length = i ∧ Digs l ∧ val l = val P - val Q := by
 obtain ⟨h1, h2, h3⟩ := h
 rw [List.drop_of_length_le hp, List.drop_of_length_le hq] at h3
 refine ⟨h1, h2, ?_⟩
 have hb := val_bound h2
 rw [h1] at hb
 have hz : (val [] : Int) - val [] - c = -c := by show (0 : Int) - 0 - c = -c; omega
 rw [hz] at h3
 rcases (show c = 0 ∨ c = 1 by omega) with rfl | rfl
 ·rw [Int.neg_zero, Int.mul_zero] at h3; omega
 ·rw [Int.mul_neg, Int.mul_one] at h3; omega
set_option maxRecDepth 100000 in
set_option maxHeartbeats 8000000 in
theorem plus_down (na nb : Bool) (A B : Option Addr) (n m ca cb : Nat) (P Q : List Int) (w : World) (hne : (na == nb) = false) (hI : IsI w 0 A n P) (hJ : IsI w 0 B m Q) (hn : n ≤ 32) (hm : m ≤ 32) (hP : Canon P) (hQ : Canon Q) (hle : val Q ≤ val P) :
  Calls Tryz.prog 134 #[.agg #[.bool na, .slice A n ca], .agg #[.bool nb, .slice B m cb]] w (RetDigs na (val P - val Q) w) := by
 have HL := Lib.hid (fun W (hb : Below w.heap.size w W) => larger_any na nb A B n m ca cb P Q W (hI.below hb) (hJ.below hb) om9 om9 hP hQ)
 have hc : (0 : Int) ≤ cmpA (val P) (val Q) := by
  unfold cmpA
  by_cases h : val Q < val P
  ·rw [if_pos h]; decide
  ·rw [if_neg h, if_neg om9]; decide
 generalize cmpA (val P) (val Q) = cc at *
 have hlen : Q.length ≤ P.length := by
  rcases Nat.lt_or_ge P.length Q.length with h | h
  ·have := len_lt_val hP hQ h
   omega
  ·exact h
 have hxy : m ≤ n := by
  have e1 := hI.1
  have e2 := hJ.1
  omega
 have HLE := Lib.hid (show val Q ≤ val P by omega)
 have HI := Lib.hid hI
 have HJ := Lib.hid hJ
 have LP := Lib.hid hI.1
 have LQ := Lib.hid hJ.1
 have HP := Lib.hid hP.1
 have HQ := Lib.hid hQ.1
 clear hI hJ hP hQ hlen hle
 go_enter Tryz.func134, Tryz.ntmps134
 go_wp2_with fail
 refine (HL.out _ (by (repeat first | with_reducible exact Below.refl _ _ | (with_reducible refine Below.alloc ?_ ?_ _; rotate_left; exact (by first | omega | (simp; done) | (simp; omega)))))).mono ?_
 rintro e w1 ⟨rfl, hb⟩
 have hB : Below w.heap.size w w1 := Below.trans (by (repeat first | with_reducible exact Below.refl _ _ | (with_reducible refine Below.alloc ?_ ?_ _; rotate_left; exact (by first | omega | (simp; done) | (simp; omega))))) (hb.mono (by ((try simp only [World.size_alloc, World.size_setCell, size_drew, size_drewN]); omega)))
 obtain ⟨hc1, hf1⟩ := bcell hb
 have hs1 := hb.size
 clear hb HL
 (try simp only [World.size_alloc, World.size_setCell] at hc1 hf1 hs1)
 have hw0 : w.heap.size < w1.heap.size := by omega
 have hw1 : w.heap.size + 1 < w1.heap.size := by omega
 have hw2 : w.heap.size + 1 + 1 < w1.heap.size := by omega
 have x0 : w1.cell? ⟨w.heap.size, 0, none⟩ = some (.bool na) := by go_simp
 have x1 : w1.cell? ⟨w.heap.size, 1, none⟩ = some (.slice A n ca) := by go_simp
 have y0 : w1.cell? ⟨w.heap.size + 1, 0, none⟩ = some (.bool nb) := by go_simp
 have y1 : w1.cell? ⟨w.heap.size + 1, 1, none⟩ = some (.slice B m cb) := by go_simp
 have z0 : w1.cell? ⟨w.heap.size + 1 + 1, 0, none⟩ = some (.bool false) := by go_simp
 have z1 : w1.cell? ⟨w.heap.size + 1 + 1, 1, none⟩ = some (.slice none 0 0) := by go_simp
 have xf0 : w1.frozen? ⟨w.heap.size, 0, none⟩ = false := by go_simp
 have xf1 : w1.frozen? ⟨w.heap.size, 1, none⟩ = false := by go_simp
 have yf0 : w1.frozen? ⟨w.heap.size + 1, 0, none⟩ = false := by go_simp
 have yf1 : w1.frozen? ⟨w.heap.size + 1, 1, none⟩ = false := by go_simp
 have zf0 : w1.frozen? ⟨w.heap.size + 1 + 1, 0, none⟩ = false := by go_simp
 have zf1 : w1.frozen? ⟨w.heap.size + 1 + 1, 1, none⟩ = false := by go_simp
 clear hc1 hf1
 go_wp2_with fail
 go_loopw [10, 11] (fun cv iv wr => ∃ (c : Int) (i : Nat) (l : List Int) (sl : Value), cv = .int .i64 c ∧ iv = .int .i64 i ∧ 0 ≤ c ∧ c ≤ 1 ∧ i ≤ n ∧ Taken2 P Q c i l ∧ wr.cell? ⟨w1.heap.size, 0, none⟩ = some (.bool na) ∧ wr.cell? ⟨w1.heap.size, 1, none⟩ = some sl ∧ wr.frozen? ⟨w1.heap.size, 0, none⟩ = false ∧ wr.frozen? ⟨w1.heap.size, 1, none⟩ = false ∧ wr.ownsRow (w1.heap.size + 1) 3 1 sl i (l.map (Value.int .i64)) ∧ wr.cell? ⟨w.heap.size, 1, none⟩ = some (.slice A n ca) ∧ wr.cell? ⟨w.heap.size + 1, 1, none⟩ = some (.slice B m cb) ∧ (wr).cell? ⟨w.heap.size + 1 + 1, 0, none⟩ = some (cur (wr) ⟨w.heap.size + 1 + 1, 0, none⟩) ∧ (wr).frozen? ⟨w.heap.size + 1 + 1, 0, none⟩ = false ∧ (wr).cell? ⟨w.heap.size + 1 + 1, 1, none⟩ = some (cur (wr) ⟨w.heap.size + 1 + 1, 1, none⟩) ∧ (wr).frozen? ⟨w.heap.size + 1 + 1, 1, none⟩ = false ∧ w1.heap.size < wr.heap.size ∧ Below w.heap.size w wr) (fun _ iv _ => 40 - (intOf iv).toNat)
 case atStart => exact ⟨0, 0, [], .slice none 0 0, rfl, rfl, Int.le_refl _, by omega, Nat.zero_le _, taken2_start P Q, (by go_simp), (by go_simp), (by go_simp), (by go_simp), ⟨rfl, .inl ⟨rfl, rfl⟩⟩, (by go_simp), (by go_simp), (by simp only [cur_iff, isSome_setCell]; go_simp), (by go_simp), (by simp only [cur_iff, isSome_setCell]; go_simp), (by go_simp), (by ((try simp only [World.size_alloc, World.size_setCell, size_drew, size_drewN]); omega)), (by (repeat first | with_reducible assumption | (with_reducible refine Below.alloc ?_ ?_ _; rotate_left; exact om9)))⟩
 case round =>
  clear hB x0 x1 y0 y1 z0 z1 xf0 xf1 yf0 yf1 zf0 zf1
  obtain ⟨c, i, l, sl, rfl, rfl, hc0, hc1, hi, hs, c0, c1, f0, f1, hown, ta, tb, r0, rf0, r1, rf1, hsz, hB⟩ := hrel
  generalize w1.heap.size = O at *
  have HO := Lib.hid hown
  have hx0 : w.heap.size < wr.heap.size := by omega
  have hx1 : w.heap.size + 1 < wr.heap.size := by omega
  have hx2 : w.heap.size + 1 + 1 < wr.heap.size := by omega
  have i0 : (0 : Int) ≤ i := by omega
  have pd := digs_getD HP.out i
  have qd := digs_getD HQ.out i
  have hstep := fun v c' => @taken2_step P Q l c v c' i hs
  have HS := Lib.hid hs
  clear hs hown
  by_cases hin : i < n
  ·by_cases him : i < m
   ·obtain ⟨a, ao, rfl, _, ha, hcP⟩ := HI.out.2 om9
    have p0 := (hB.cell (p := ⟨a, ao + i, none⟩) ha).trans (hcP i om9)
    have k1 : (i : Int) < n := by omega
    clear hcP
    obtain ⟨b, bo, rfl, _, hb, hcQ⟩ := HJ.out.2 om9
    have q0 := (hB.cell (p := ⟨b, bo + i, none⟩) hb).trans (hcQ i om9)
    have k2 : (i : Int) < m := by omega
    clear hcQ
    generalize P.getD i 0 = p at *
    generalize Q.getD i 0 = q at *
    obtain ⟨pd0, pd1⟩ := pd
    obtain ⟨qd0, qd1⟩ := qd
    by_cases hv : p - c - q < 0
    ·have HT := Lib.hid (hstep (p - c - q + 10000) 1 om9 om9 om9)
     clear hstep
     go_wp2_with (at_builtin; refine append_int rfl (Operand.tmp 115) (Operand.tmp 117) rfl (O + 1) sl i _ rfl HO.out _ rfl om9 om9 ?_; intro A1 cap1 w1 hown1 hG; have HO1 := Lib.hid hown1; clear hown1; have hB1 : Below w.heap.size w w1 := hB.trans (hG.mono om9); have hgs := hG.size; have g0 := (hG.cell (p := ⟨O, 0, none⟩) (by (simp; done))).trans c0; have g1 := (hG.cell (p := ⟨O, 1, none⟩) (by (simp; done))).trans c1; have g2 := (hG.frozen (p := ⟨O, 0, none⟩) (by (simp; done))).trans f0; have g3 := (hG.frozen (p := ⟨O, 1, none⟩) (by (simp; done))).trans f1; have g4 := (hG.cell (p := ⟨w.heap.size + 1 + 1, 0, none⟩) (by (simp; omega))).trans r0; have g5 := (hG.frozen (p := ⟨w.heap.size + 1 + 1, 0, none⟩) (by (simp; omega))).trans rf0; have g6 := (hG.cell (p := ⟨w.heap.size + 1 + 1, 1, none⟩) (by (simp; omega))).trans r1; have g7 := (hG.frozen (p := ⟨w.heap.size + 1 + 1, 1, none⟩) (by (simp; omega))).trans rf1; have g8 := (hG.cell (p := ⟨w.heap.size, 1, none⟩) (by (simp; omega))).trans ta; have g9 := (hG.cell (p := ⟨w.heap.size + 1, 1, none⟩) (by (simp; omega))).trans tb)
     go_roundw
     case rel => exact ⟨1, i + 1, l ++ [p - c - q + 10000], .slice A1 (i + 1) cap1, rfl, (by rfl), by omega, by omega, by omega, HT.out, (by go_simp), (by go_simp), (by go_simp), (by go_simp), (by rw [List.map_append]; exact own_setCell HO1.out (by (simp; done)) _), (by go_simp), (by go_simp), (by simp only [cur_iff, isSome_setCell]; go_simp), (by go_simp), (by simp only [cur_iff, isSome_setCell]; go_simp), (by go_simp), (by ((try simp only [World.size_alloc, World.size_setCell, size_drew, size_drewN]); omega)), (by (repeat first | with_reducible assumption | (with_reducible refine Below.setCell ?_ ?_ _; rotate_left; exact (by (simp; omega)))))⟩
     case measure => first | (simp [intOf]; done) | (simp [intOf]; omega)
    ·have HT := Lib.hid (hstep (p - c - q) 0 om9 om9 om9)
     clear hstep
     go_wp2_with (at_builtin; refine append_int rfl (Operand.tmp 115) (Operand.tmp 117) rfl (O + 1) sl i _ rfl HO.out _ rfl om9 om9 ?_; intro A1 cap1 w1 hown1 hG; have HO1 := Lib.hid hown1; clear hown1; have hB1 : Below w.heap.size w w1 := hB.trans (hG.mono om9); have hgs := hG.size; have g0 := (hG.cell (p := ⟨O, 0, none⟩) (by (simp; done))).trans c0; have g1 := (hG.cell (p := ⟨O, 1, none⟩) (by (simp; done))).trans c1; have g2 := (hG.frozen (p := ⟨O, 0, none⟩) (by (simp; done))).trans f0; have g3 := (hG.frozen (p := ⟨O, 1, none⟩) (by (simp; done))).trans f1; have g4 := (hG.cell (p := ⟨w.heap.size + 1 + 1, 0, none⟩) (by (simp; omega))).trans r0; have g5 := (hG.frozen (p := ⟨w.heap.size + 1 + 1, 0, none⟩) (by (simp; omega))).trans rf0; have g6 := (hG.cell (p := ⟨w.heap.size + 1 + 1, 1, none⟩) (by (simp; omega))).trans r1; have g7 := (hG.frozen (p := ⟨w.heap.size + 1 + 1, 1, none⟩) (by (simp; omega))).trans rf1; have g8 := (hG.cell (p := ⟨w.heap.size, 1, none⟩) (by (simp; omega))).trans ta; have g9 := (hG.cell (p := ⟨w.heap.size + 1, 1, none⟩) (by (simp; omega))).trans tb)
     go_roundw
     case rel => exact ⟨0, i + 1, l ++ [p - c - q], .slice A1 (i + 1) cap1, rfl, (by rfl), by omega, by omega, by omega, HT.out, (by go_simp), (by go_simp), (by go_simp), (by go_simp), (by rw [List.map_append]; exact own_setCell HO1.out (by (simp; done)) _), (by go_simp), (by go_simp), (by simp only [cur_iff, isSome_setCell]; go_simp), (by go_simp), (by simp only [cur_iff, isSome_setCell]; go_simp), (by go_simp), (by ((try simp only [World.size_alloc, World.size_setCell, size_drew, size_drewN]); omega)), (by (repeat first | with_reducible assumption | (with_reducible refine Below.setCell ?_ ?_ _; rotate_left; exact (by (simp; omega)))))⟩
     case measure => first | (simp [intOf]; done) | (simp [intOf]; omega)
   ·obtain ⟨a, ao, rfl, _, ha, hcP⟩ := HI.out.2 om9
    have p0 := (hB.cell (p := ⟨a, ao + i, none⟩) ha).trans (hcP i om9)
    have k1 : (i : Int) < n := by omega
    clear hcP
    have hq0 := getD_out (P := Q) (i := i) (by rw [LQ.out]; omega)
    rw [hq0] at hstep qd
    clear hq0
    generalize P.getD i 0 = p at *
    obtain ⟨pd0, pd1⟩ := pd
    obtain ⟨qd0, qd1⟩ := qd
    by_cases hv : p - c < 0
    ·have HT := Lib.hid (hstep (p - c + 10000) 1 om9 om9 om9)
     clear hstep
     go_wp2_with (at_builtin; refine append_int rfl (Operand.tmp 115) (Operand.tmp 117) rfl (O + 1) sl i _ rfl HO.out _ rfl om9 om9 ?_; intro A1 cap1 w1 hown1 hG; have HO1 := Lib.hid hown1; clear hown1; have hB1 : Below w.heap.size w w1 := hB.trans (hG.mono om9); have hgs := hG.size; have g0 := (hG.cell (p := ⟨O, 0, none⟩) (by (simp; done))).trans c0; have g1 := (hG.cell (p := ⟨O, 1, none⟩) (by (simp; done))).trans c1; have g2 := (hG.frozen (p := ⟨O, 0, none⟩) (by (simp; done))).trans f0; have g3 := (hG.frozen (p := ⟨O, 1, none⟩) (by (simp; done))).trans f1; have g4 := (hG.cell (p := ⟨w.heap.size + 1 + 1, 0, none⟩) (by (simp; omega))).trans r0; have g5 := (hG.frozen (p := ⟨w.heap.size + 1 + 1, 0, none⟩) (by (simp; omega))).trans rf0; have g6 := (hG.cell (p := ⟨w.heap.size + 1 + 1, 1, none⟩) (by (simp; omega))).trans r1; have g7 := (hG.frozen (p := ⟨w.heap.size + 1 + 1, 1, none⟩) (by (simp; omega))).trans rf1; have g8 := (hG.cell (p := ⟨w.heap.size, 1, none⟩) (by (simp; omega))).trans ta; have g9 := (hG.cell (p := ⟨w.heap.size + 1, 1, none⟩) (by (simp; omega))).trans tb)
     go_roundw
     case rel => exact ⟨1, i + 1, l ++ [p - c + 10000], .slice A1 (i + 1) cap1, rfl, (by rfl), by omega, by omega, by omega, HT.out, (by go_simp), (by go_simp), (by go_simp), (by go_simp), (by rw [List.map_append]; exact own_setCell HO1.out (by (simp; done)) _), (by go_simp), (by go_simp), (by simp only [cur_iff, isSome_setCell]; go_simp), (by go_simp), (by simp only [cur_iff, isSome_setCell]; go_simp), (by go_simp), (by ((try simp only [World.size_alloc, World.size_setCell, size_drew, size_drewN]); omega)), (by (repeat first | with_reducible assumption | (with_reducible refine Below.setCell ?_ ?_ _; rotate_left; exact (by (simp; omega)))))⟩
     case measure => first | (simp [intOf]; done) | (simp [intOf]; omega)
    ·have HT := Lib.hid (hstep (p - c) 0 om9 om9 om9)
     clear hstep
     go_wp2_with (at_builtin; refine append_int rfl (Operand.tmp 115) (Operand.tmp 117) rfl (O + 1) sl i _ rfl HO.out _ rfl om9 om9 ?_; intro A1 cap1 w1 hown1 hG; have HO1 := Lib.hid hown1; clear hown1; have hB1 : Below w.heap.size w w1 := hB.trans (hG.mono om9); have hgs := hG.size; have g0 := (hG.cell (p := ⟨O, 0, none⟩) (by (simp; done))).trans c0; have g1 := (hG.cell (p := ⟨O, 1, none⟩) (by (simp; done))).trans c1; have g2 := (hG.frozen (p := ⟨O, 0, none⟩) (by (simp; done))).trans f0; have g3 := (hG.frozen (p := ⟨O, 1, none⟩) (by (simp; done))).trans f1; have g4 := (hG.cell (p := ⟨w.heap.size + 1 + 1, 0, none⟩) (by (simp; omega))).trans r0; have g5 := (hG.frozen (p := ⟨w.heap.size + 1 + 1, 0, none⟩) (by (simp; omega))).trans rf0; have g6 := (hG.cell (p := ⟨w.heap.size + 1 + 1, 1, none⟩) (by (simp; omega))).trans r1; have g7 := (hG.frozen (p := ⟨w.heap.size + 1 + 1, 1, none⟩) (by (simp; omega))).trans rf1; have g8 := (hG.cell (p := ⟨w.heap.size, 1, none⟩) (by (simp; omega))).trans ta; have g9 := (hG.cell (p := ⟨w.heap.size + 1, 1, none⟩) (by (simp; omega))).trans tb)
     go_roundw
     case rel => exact ⟨0, i + 1, l ++ [p - c], .slice A1 (i + 1) cap1, rfl, (by rfl), by omega, by omega, by omega, HT.out, (by go_simp), (by go_simp), (by go_simp), (by go_simp), (by rw [List.map_append]; exact own_setCell HO1.out (by (simp; done)) _), (by go_simp), (by go_simp), (by simp only [cur_iff, isSome_setCell]; go_simp), (by go_simp), (by simp only [cur_iff, isSome_setCell]; go_simp), (by go_simp), (by ((try simp only [World.size_alloc, World.size_setCell, size_drew, size_drewN]); omega)), (by (repeat first | with_reducible assumption | (with_reducible refine Below.setCell ?_ ?_ _; rotate_left; exact (by (simp; omega)))))⟩
     case measure => first | (simp [intOf]; done) | (simp [intOf]; omega)
  ·have hend := taken2_end HS.out (by rw [LP.out]; omega) (by rw [LQ.out]; omega) HLE.out hc0 hc1
   obtain ⟨A1, cap1, rfl, hca, hIo⟩ := isI_of_own HO.out
   have HIO := Lib.hid hIo
   have HE := Lib.hid hend
   clear hIo hend hstep HS
   go_wp2_with fail
   refine (trim_any (O + 1) na _ i cap1 l _ HIO.out hca om9 HE.out.2.1).mono ?_
   rintro e w1 ⟨A', k', cap', rfl, hI', q1, q2, q3, q4, hb⟩
   have HI' := Lib.hid hI'
   have H3 := Lib.hid q3
   have H4 := Lib.hid q4
   have g0 := (hb.cell (p := ⟨w.heap.size + 1 + 1, 0, none⟩) om9).trans r0
   have g1 := (hb.cell (p := ⟨w.heap.size + 1 + 1, 1, none⟩) om9).trans r1
   have g2 := (hb.frozen (p := ⟨w.heap.size + 1 + 1, 0, none⟩) om9).trans rf0
   have g3 := (hb.frozen (p := ⟨w.heap.size + 1 + 1, 1, none⟩) om9).trans rf1
   have hB1 : Below w.heap.size w w1 := hB.trans (hb.mono om9)
   clear hI' q3 q4 hb r0 r1 rf0 rf1
   go_wp2
   exact bodyPost_ret (res2b Tryz.results134 _ _ _ _ _ rfl (by (try simp only [isSome_setCell]); first | assumption | go_simp) (by (try simp only [isSome_setCell]); first | assumption | go_simp)) rfl ⟨A', k', cap', l.take k', rfl, ((HI'.out.setCell (by (simp; omega)) _).setCell (by (simp; omega)) _).mono om9, q1, by omega, H3.out, by rw [H4.out, HE.out.2.2], by (repeat first | with_reducible assumption | (with_reducible refine Below.setCell ?_ ?_ _; rotate_left; exact (by (simp; omega))))⟩
set_option maxRecDepth 100000 in
set_option maxHeartbeats 8000000 in
theorem plus_up (na nb : Bool) (A B : Option Addr) (n m ca cb : Nat) (P Q : List Int) (w : World) (hne : (na == nb) = false) (hI : IsI w 0 A n P) (hJ : IsI w 0 B m Q) (hn : n ≤ 32) (hm : m ≤ 32) (hP : Canon P) (hQ : Canon Q) (hlt : val P < val Q) :
  Calls Tryz.prog 134 #[.agg #[.bool na, .slice A n ca], .agg #[.bool nb, .slice B m cb]] w (RetDigs nb (val Q - val P) w) := by
 have HL := Lib.hid (fun W (hb : Below w.heap.size w W) => larger_any na nb A B n m ca cb P Q W (hI.below hb) (hJ.below hb) om9 om9 hP hQ)
 have hc : cmpA (val P) (val Q) = -1 := by unfold cmpA; rw [if_neg om9, if_pos hlt]
 rw [hc] at HL
 have hlen : P.length ≤ Q.length := by
  rcases Nat.lt_or_ge Q.length P.length with h | h
  ·have := len_lt_val hQ hP h
   omega
  ·exact h
 have hxy : n ≤ m := by
  have e1 := hI.1
  have e2 := hJ.1
  omega
 have HLE := Lib.hid (show val P ≤ val Q by omega)
 have HI := Lib.hid hI
 have HJ := Lib.hid hJ
 have LP := Lib.hid hI.1
 have LQ := Lib.hid hJ.1
 have HP := Lib.hid hP.1
 have HQ := Lib.hid hQ.1
 clear hI hJ hP hQ hlen hc hlt
 go_enter Tryz.func134, Tryz.ntmps134
 go_wp2_with fail
 refine (HL.out _ (by (repeat first | with_reducible exact Below.refl _ _ | (with_reducible refine Below.alloc ?_ ?_ _; rotate_left; exact (by first | omega | (simp; done) | (simp; omega)))))).mono ?_
 rintro e w1 ⟨rfl, hb⟩
 have hB : Below w.heap.size w w1 := Below.trans (by (repeat first | with_reducible exact Below.refl _ _ | (with_reducible refine Below.alloc ?_ ?_ _; rotate_left; exact (by first | omega | (simp; done) | (simp; omega))))) (hb.mono (by ((try simp only [World.size_alloc, World.size_setCell, size_drew, size_drewN]); omega)))
 obtain ⟨hc1, hf1⟩ := bcell hb
 have hs1 := hb.size
 clear hb HL
 (try simp only [World.size_alloc, World.size_setCell] at hc1 hf1 hs1)
 have hw0 : w.heap.size < w1.heap.size := by omega
 have hw1 : w.heap.size + 1 < w1.heap.size := by omega
 have hw2 : w.heap.size + 1 + 1 < w1.heap.size := by omega
 have x0 : w1.cell? ⟨w.heap.size, 0, none⟩ = some (.bool na) := by go_simp
 have x1 : w1.cell? ⟨w.heap.size, 1, none⟩ = some (.slice A n ca) := by go_simp
 have y0 : w1.cell? ⟨w.heap.size + 1, 0, none⟩ = some (.bool nb) := by go_simp
 have y1 : w1.cell? ⟨w.heap.size + 1, 1, none⟩ = some (.slice B m cb) := by go_simp
 have z0 : w1.cell? ⟨w.heap.size + 1 + 1, 0, none⟩ = some (.bool false) := by go_simp
 have z1 : w1.cell? ⟨w.heap.size + 1 + 1, 1, none⟩ = some (.slice none 0 0) := by go_simp
 have xf0 : w1.frozen? ⟨w.heap.size, 0, none⟩ = false := by go_simp
 have xf1 : w1.frozen? ⟨w.heap.size, 1, none⟩ = false := by go_simp
 have yf0 : w1.frozen? ⟨w.heap.size + 1, 0, none⟩ = false := by go_simp
 have yf1 : w1.frozen? ⟨w.heap.size + 1, 1, none⟩ = false := by go_simp
 have zf0 : w1.frozen? ⟨w.heap.size + 1 + 1, 0, none⟩ = false := by go_simp
 have zf1 : w1.frozen? ⟨w.heap.size + 1 + 1, 1, none⟩ = false := by go_simp
 clear hc1 hf1
 go_wp2_with fail
 go_loopw [10, 11] (fun cv iv wr => ∃ (c : Int) (i : Nat) (l : List Int) (sl : Value), cv = .int .i64 c ∧ iv = .int .i64 i ∧ 0 ≤ c ∧ c ≤ 1 ∧ i ≤ m ∧ Taken2 Q P c i l ∧ wr.cell? ⟨w1.heap.size, 0, none⟩ = some (.bool nb) ∧ wr.cell? ⟨w1.heap.size, 1, none⟩ = some sl ∧ wr.frozen? ⟨w1.heap.size, 0, none⟩ = false ∧ wr.frozen? ⟨w1.heap.size, 1, none⟩ = false ∧ wr.ownsRow (w1.heap.size + 1) 3 1 sl i (l.map (Value.int .i64)) ∧ wr.cell? ⟨w.heap.size, 1, none⟩ = some (.slice B m cb) ∧ wr.cell? ⟨w.heap.size + 1, 1, none⟩ = some (.slice A n ca) ∧ (wr).cell? ⟨w.heap.size + 1 + 1, 0, none⟩ = some (cur (wr) ⟨w.heap.size + 1 + 1, 0, none⟩) ∧ (wr).frozen? ⟨w.heap.size + 1 + 1, 0, none⟩ = false ∧ (wr).cell? ⟨w.heap.size + 1 + 1, 1, none⟩ = some (cur (wr) ⟨w.heap.size + 1 + 1, 1, none⟩) ∧ (wr).frozen? ⟨w.heap.size + 1 + 1, 1, none⟩ = false ∧ w1.heap.size < wr.heap.size ∧ Below w.heap.size w wr) (fun _ iv _ => 40 - (intOf iv).toNat)
 case atStart => exact ⟨0, 0, [], .slice none 0 0, rfl, rfl, Int.le_refl _, by omega, Nat.zero_le _, taken2_start Q P, (by go_simp), (by go_simp), (by go_simp), (by go_simp), ⟨rfl, .inl ⟨rfl, rfl⟩⟩, (by go_simp), (by go_simp), (by simp only [cur_iff, isSome_setCell]; go_simp), (by go_simp), (by simp only [cur_iff, isSome_setCell]; go_simp), (by go_simp), (by ((try simp only [World.size_alloc, World.size_setCell, size_drew, size_drewN]); omega)), (by (repeat first | with_reducible assumption | (with_reducible refine Below.setCell ?_ ?_ _; rotate_left; exact (by (simp; done))) | (with_reducible refine Below.alloc ?_ ?_ _; rotate_left; exact (by (simp; omega)))))⟩
 case round =>
  clear hB x0 x1 y0 y1 z0 z1 xf0 xf1 yf0 yf1 zf0 zf1
  obtain ⟨c, i, l, sl, rfl, rfl, hc0, hc1, hi, hs, c0, c1, f0, f1, hown, ta, tb, r0, rf0, r1, rf1, hsz, hB⟩ := hrel
  generalize w1.heap.size = O at *
  have HO := Lib.hid hown
  have hx0 : w.heap.size < wr.heap.size := by omega
  have hx1 : w.heap.size + 1 < wr.heap.size := by omega
  have hx2 : w.heap.size + 1 + 1 < wr.heap.size := by omega
  have i0 : (0 : Int) ≤ i := by omega
  have pd := digs_getD HQ.out i
  have qd := digs_getD HP.out i
  have hstep := fun v c' => @taken2_step Q P l c v c' i hs
  have HS := Lib.hid hs
  clear hs hown
  by_cases hin : i < m
  ·by_cases him : i < n
   ·obtain ⟨a, ao, rfl, _, ha, hcP⟩ := HJ.out.2 om9
    have p0 := (hB.cell (p := ⟨a, ao + i, none⟩) ha).trans (hcP i om9)
    have k1 : (i : Int) < m := by omega
    clear hcP
    obtain ⟨b, bo, rfl, _, hb, hcQ⟩ := HI.out.2 om9
    have q0 := (hB.cell (p := ⟨b, bo + i, none⟩) hb).trans (hcQ i om9)
    have k2 : (i : Int) < n := by omega
    clear hcQ
    generalize Q.getD i 0 = p at *
    generalize P.getD i 0 = q at *
    obtain ⟨pd0, pd1⟩ := pd
    obtain ⟨qd0, qd1⟩ := qd
    by_cases hv : p - c - q < 0
    ·have HT := Lib.hid (hstep (p - c - q + 10000) 1 om9 om9 om9)
     clear hstep
     go_wp2_with (at_builtin; refine append_int rfl (Operand.tmp 115) (Operand.tmp 117) rfl (O + 1) sl i _ rfl HO.out _ rfl om9 om9 ?_; intro A1 cap1 w1 hown1 hG; have HO1 := Lib.hid hown1; clear hown1; have hB1 : Below w.heap.size w w1 := hB.trans (hG.mono om9); have hgs := hG.size; have g0 := (hG.cell (p := ⟨O, 0, none⟩) (by (simp; done))).trans c0; have g1 := (hG.cell (p := ⟨O, 1, none⟩) (by (simp; done))).trans c1; have g2 := (hG.frozen (p := ⟨O, 0, none⟩) (by (simp; done))).trans f0; have g3 := (hG.frozen (p := ⟨O, 1, none⟩) (by (simp; done))).trans f1; have g4 := (hG.cell (p := ⟨w.heap.size + 1 + 1, 0, none⟩) (by (simp; omega))).trans r0; have g5 := (hG.frozen (p := ⟨w.heap.size + 1 + 1, 0, none⟩) (by (simp; omega))).trans rf0; have g6 := (hG.cell (p := ⟨w.heap.size + 1 + 1, 1, none⟩) (by (simp; omega))).trans r1; have g7 := (hG.frozen (p := ⟨w.heap.size + 1 + 1, 1, none⟩) (by (simp; omega))).trans rf1; have g8 := (hG.cell (p := ⟨w.heap.size, 1, none⟩) (by (simp; omega))).trans ta; have g9 := (hG.cell (p := ⟨w.heap.size + 1, 1, none⟩) (by (simp; omega))).trans tb)
     go_roundw
     case rel => exact ⟨1, i + 1, l ++ [p - c - q + 10000], .slice A1 (i + 1) cap1, rfl, (by rfl), by omega, by omega, by omega, HT.out, (by go_simp), (by go_simp), (by go_simp), (by go_simp), (by rw [List.map_append]; exact own_setCell HO1.out (by (simp; done)) _), (by go_simp), (by go_simp), (by simp only [cur_iff, isSome_setCell]; go_simp), (by go_simp), (by simp only [cur_iff, isSome_setCell]; go_simp), (by go_simp), (by ((try simp only [World.size_alloc, World.size_setCell, size_drew, size_drewN]); omega)), (by (repeat first | with_reducible assumption | (with_reducible refine Below.setCell ?_ ?_ _; rotate_left; exact (by (simp; omega)))))⟩
     case measure => first | (simp [intOf]; done) | (simp [intOf]; omega)
    ·have HT := Lib.hid (hstep (p - c - q) 0 om9 om9 om9)
     clear hstep
     go_wp2_with (at_builtin; refine append_int rfl (Operand.tmp 115) (Operand.tmp 117) rfl (O + 1) sl i _ rfl HO.out _ rfl om9 om9 ?_; intro A1 cap1 w1 hown1 hG; have HO1 := Lib.hid hown1; clear hown1; have hB1 : Below w.heap.size w w1 := hB.trans (hG.mono om9); have hgs := hG.size; have g0 := (hG.cell (p := ⟨O, 0, none⟩) (by (simp; done))).trans c0; have g1 := (hG.cell (p := ⟨O, 1, none⟩) (by (simp; done))).trans c1; have g2 := (hG.frozen (p := ⟨O, 0, none⟩) (by (simp; done))).trans f0; have g3 := (hG.frozen (p := ⟨O, 1, none⟩) (by (simp; done))).trans f1; have g4 := (hG.cell (p := ⟨w.heap.size + 1 + 1, 0, none⟩) (by (simp; omega))).trans r0; have g5 := (hG.frozen (p := ⟨w.heap.size + 1 + 1, 0, none⟩) (by (simp; omega))).trans rf0; have g6 := (hG.cell (p := ⟨w.heap.size + 1 + 1, 1, none⟩) (by (simp; omega))).trans r1; have g7 := (hG.frozen (p := ⟨w.heap.size + 1 + 1, 1, none⟩) (by (simp; omega))).trans rf1; have g8 := (hG.cell (p := ⟨w.heap.size, 1, none⟩) (by (simp; omega))).trans ta; have g9 := (hG.cell (p := ⟨w.heap.size + 1, 1, none⟩) (by (simp; omega))).trans tb)
     go_roundw
     case rel => exact ⟨0, i + 1, l ++ [p - c - q], .slice A1 (i + 1) cap1, rfl, (by rfl), by omega, by omega, by omega, HT.out, (by go_simp), (by go_simp), (by go_simp), (by go_simp), (by rw [List.map_append]; exact own_setCell HO1.out (by (simp; done)) _), (by go_simp), (by go_simp), (by simp only [cur_iff, isSome_setCell]; go_simp), (by go_simp), (by simp only [cur_iff, isSome_setCell]; go_simp), (by go_simp), (by ((try simp only [World.size_alloc, World.size_setCell, size_drew, size_drewN]); omega)), (by (repeat first | with_reducible assumption | (with_reducible refine Below.setCell ?_ ?_ _; rotate_left; exact (by (simp; omega)))))⟩
     case measure => first | (simp [intOf]; done) | (simp [intOf]; omega)
   ·obtain ⟨a, ao, rfl, _, ha, hcP⟩ := HJ.out.2 om9
    have p0 := (hB.cell (p := ⟨a, ao + i, none⟩) ha).trans (hcP i om9)
    have k1 : (i : Int) < m := by omega
    clear hcP
    have hq0 := getD_out (P := P) (i := i) (by rw [LP.out]; omega)
    rw [hq0] at hstep qd
    clear hq0
    generalize Q.getD i 0 = p at *
    obtain ⟨pd0, pd1⟩ := pd
    obtain ⟨qd0, qd1⟩ := qd
    by_cases hv : p - c < 0
    ·have HT := Lib.hid (hstep (p - c + 10000) 1 om9 om9 om9)
     clear hstep
     go_wp2_with (at_builtin; refine append_int rfl (Operand.tmp 115) (Operand.tmp 117) rfl (O + 1) sl i _ rfl HO.out _ rfl om9 om9 ?_; intro A1 cap1 w1 hown1 hG; have HO1 := Lib.hid hown1; clear hown1; have hB1 : Below w.heap.size w w1 := hB.trans (hG.mono om9); have hgs := hG.size; have g0 := (hG.cell (p := ⟨O, 0, none⟩) (by (simp; done))).trans c0; have g1 := (hG.cell (p := ⟨O, 1, none⟩) (by (simp; done))).trans c1; have g2 := (hG.frozen (p := ⟨O, 0, none⟩) (by (simp; done))).trans f0; have g3 := (hG.frozen (p := ⟨O, 1, none⟩) (by (simp; done))).trans f1; have g4 := (hG.cell (p := ⟨w.heap.size + 1 + 1, 0, none⟩) (by (simp; omega))).trans r0; have g5 := (hG.frozen (p := ⟨w.heap.size + 1 + 1, 0, none⟩) (by (simp; omega))).trans rf0; have g6 := (hG.cell (p := ⟨w.heap.size + 1 + 1, 1, none⟩) (by (simp; omega))).trans r1; have g7 := (hG.frozen (p := ⟨w.heap.size + 1 + 1, 1, none⟩) (by (simp; omega))).trans rf1; have g8 := (hG.cell (p := ⟨w.heap.size, 1, none⟩) (by (simp; omega))).trans ta; have g9 := (hG.cell (p := ⟨w.heap.size + 1, 1, none⟩) (by (simp; omega))).trans tb)
     go_roundw
     case rel => exact ⟨1, i + 1, l ++ [p - c + 10000], .slice A1 (i + 1) cap1, rfl, (by rfl), by omega, by omega, by omega, HT.out, (by go_simp), (by go_simp), (by go_simp), (by go_simp), (by rw [List.map_append]; exact own_setCell HO1.out (by (simp; done)) _), (by go_simp), (by go_simp), (by simp only [cur_iff, isSome_setCell]; go_simp), (by go_simp), (by simp only [cur_iff, isSome_setCell]; go_simp), (by go_simp), (by ((try simp only [World.size_alloc, World.size_setCell, size_drew, size_drewN]); omega)), (by (repeat first | with_reducible assumption | (with_reducible refine Below.setCell ?_ ?_ _; rotate_left; exact (by (simp; omega)))))⟩
     case measure => first | (simp [intOf]; done) | (simp [intOf]; omega)
    ·have HT := Lib.hid (hstep (p - c) 0 om9 om9 om9)
     clear hstep
     go_wp2_with (at_builtin; refine append_int rfl (Operand.tmp 115) (Operand.tmp 117) rfl (O + 1) sl i _ rfl HO.out _ rfl om9 om9 ?_; intro A1 cap1 w1 hown1 hG; have HO1 := Lib.hid hown1; clear hown1; have hB1 : Below w.heap.size w w1 := hB.trans (hG.mono om9); have hgs := hG.size; have g0 := (hG.cell (p := ⟨O, 0, none⟩) (by (simp; done))).trans c0; have g1 := (hG.cell (p := ⟨O, 1, none⟩) (by (simp; done))).trans c1; have g2 := (hG.frozen (p := ⟨O, 0, none⟩) (by (simp; done))).trans f0; have g3 := (hG.frozen (p := ⟨O, 1, none⟩) (by (simp; done))).trans f1; have g4 := (hG.cell (p := ⟨w.heap.size + 1 + 1, 0, none⟩) (by (simp; omega))).trans r0; have g5 := (hG.frozen (p := ⟨w.heap.size + 1 + 1, 0, none⟩) (by (simp; omega))).trans rf0; have g6 := (hG.cell (p := ⟨w.heap.size + 1 + 1, 1, none⟩) (by (simp; omega))).trans r1; have g7 := (hG.frozen (p := ⟨w.heap.size + 1 + 1, 1, none⟩) (by (simp; omega))).trans rf1; have g8 := (hG.cell (p := ⟨w.heap.size, 1, none⟩) (by (simp; omega))).trans ta; have g9 := (hG.cell (p := ⟨w.heap.size + 1, 1, none⟩) (by (simp; omega))).trans tb)
     go_roundw
     case rel => exact ⟨0, i + 1, l ++ [p - c], .slice A1 (i + 1) cap1, rfl, (by rfl), by omega, by omega, by omega, HT.out, (by go_simp), (by go_simp), (by go_simp), (by go_simp), (by rw [List.map_append]; exact own_setCell HO1.out (by (simp; done)) _), (by go_simp), (by go_simp), (by simp only [cur_iff, isSome_setCell]; go_simp), (by go_simp), (by simp only [cur_iff, isSome_setCell]; go_simp), (by go_simp), (by ((try simp only [World.size_alloc, World.size_setCell, size_drew, size_drewN]); omega)), (by (repeat first | with_reducible assumption | (with_reducible refine Below.setCell ?_ ?_ _; rotate_left; exact (by (simp; omega)))))⟩
     case measure => first | (simp [intOf]; done) | (simp [intOf]; omega)
  ·have hend := taken2_end HS.out (by rw [LQ.out]; omega) (by rw [LP.out]; omega) HLE.out hc0 hc1
   obtain ⟨A1, cap1, rfl, hca, hIo⟩ := isI_of_own HO.out
   have HIO := Lib.hid hIo
   have HE := Lib.hid hend
   clear hIo hend hstep HS
   go_wp2_with fail
   refine (trim_any (O + 1) nb _ i cap1 l _ HIO.out hca om9 HE.out.2.1).mono ?_
   rintro e w1 ⟨A', k', cap', rfl, hI', q1, q2, q3, q4, hb⟩
   have HI' := Lib.hid hI'
   have H3 := Lib.hid q3
   have H4 := Lib.hid q4
   have g0 := (hb.cell (p := ⟨w.heap.size + 1 + 1, 0, none⟩) om9).trans r0
   have g1 := (hb.cell (p := ⟨w.heap.size + 1 + 1, 1, none⟩) om9).trans r1
   have g2 := (hb.frozen (p := ⟨w.heap.size + 1 + 1, 0, none⟩) om9).trans rf0
   have g3 := (hb.frozen (p := ⟨w.heap.size + 1 + 1, 1, none⟩) om9).trans rf1
   have hB1 : Below w.heap.size w w1 := hB.trans (hb.mono om9)
   clear hI' q3 q4 hb r0 r1 rf0 rf1
   go_wp2
   exact bodyPost_ret (res2b Tryz.results134 _ _ _ _ _ rfl (by (try simp only [isSome_setCell]); first | assumption | go_simp) (by (try simp only [isSome_setCell]); first | assumption | go_simp)) rfl ⟨A', k', cap', l.take k', rfl, ((HI'.out.setCell (by (simp; omega)) _).setCell (by (simp; omega)) _).mono om9, q1, by omega, H3.out, by rw [H4.out, HE.out.2.2], by (repeat first | with_reducible assumption | (with_reducible refine Below.setCell ?_ ?_ _; rotate_left; exact (by (simp; omega))))⟩
end
section
open Go.RowKit
theorem big_of_digs {neg : Bool} {z t : Int} {w w' : World} {e : Ending} (h : RetDigs neg z w e w') (hz : 0 ≤ z) (ht : t = if neg = true then -z else z) : RetNew w.heap.size t w e w' := by
 obtain ⟨A, k, cap, R, rfl, hI, h1, h2, h3, h4, h5⟩ := h
 refine ⟨_, rfl, ⟨A, k, cap, R, ?_, hI, h1, h2, h3, ?_⟩, h5⟩
 ·have hn := canon_nil h3
  have hk : 0 < k ↔ z ≠ 0 := by
   rw [← h4, ← hI.1]
   constructor
   ·intro h0 h6
    rw [hn.1 h6] at h0
    exact absurd h0 de9
   ·intro h0
    rcases Nat.eq_zero_or_pos R.length with h6 | h6
    ·exact absurd (hn.2 (List.eq_nil_of_length_eq_zero h6)) h0
    ·exact h6
  have e : (neg && decide (0 < k)) = decide (t < 0) := by
   cases neg
   ·rw [if_neg de9] at ht
    simp; omega
   ·rw [if_pos rfl] at ht
    rw [Bool.true_and]
    by_cases h0 : z = 0
    ·rw [decide_eq_false (by rw [hk]; exact fun h => h h0), decide_eq_false om9]
    ·rw [decide_eq_true (hk.2 h0), decide_eq_true om9]
  rw [e]
 ·cases neg
  ·rw [if_neg de9] at ht
   omega
  ·rw [if_pos rfl] at ht
   omega
theorem plus_new (a b : Int) (u v : Value) (w : World) (hu : BigV w u a) (hv : BigV w v b) (ha : max a (-a) < pw 32) (hb : max b (-b) < pw 32) :
  Calls Tryz.prog 134 #[u, v] w (RetNew w.heap.size (a + b) w) := by
 obtain ⟨A, n, ca, P, rfl, h1, h2, h3, h4, h5⟩ := hu
 obtain ⟨B, m, cb, Q, rfl, k1, k2, k3, k4, k5⟩ := hv
 have ln := len_le_of_val h4 (n := 32) (by rw [h5]; exact ha)
 have lm := len_le_of_val k4 (n := 32) (by rw [k5]; exact hb)
 rw [h1.1] at ln
 rw [k1.1] at lm
 have p0 := (val_bound h4.1).1
 have q0 := (val_bound k4.1).1
 by_cases hs : decide (a < 0) = decide (b < 0)
 ·rw [← hs]
  refine (plus_same (decide (a < 0)) A B n m ca cb (max n m) P Q w h1 k1 om9 om9 om9 om9 h4.1 k4.1).mono ?_
  intro e w' h
  refine big_of_digs h om9 ?_
  by_cases h6 : a < 0
  ·rw [decide_eq_true h6] at hs ⊢
   have h7 : b < 0 := of_decide_eq_true hs.symm
   rw [if_pos rfl]; omega
  ·rw [decide_eq_false h6] at hs ⊢
   have h7 : ¬b < 0 := of_decide_eq_false hs.symm
   rw [if_neg de9]; omega
 ·have hne : (decide (a < 0) == decide (b < 0)) = false := by simpa using hs
  have hab : (a < 0 ∧ ¬b < 0) ∨ (¬a < 0 ∧ b < 0) := by
   by_cases h6 : a < 0
   ·by_cases h7 : b < 0
    ·exact absurd (by rw [decide_eq_true h6, decide_eq_true h7]) hs
    ·exact .inl ⟨h6, h7⟩
   ·by_cases h7 : b < 0
    ·exact .inr ⟨h6, h7⟩
    ·exact absurd (by rw [decide_eq_false h6, decide_eq_false h7]) hs
  by_cases hle : val Q ≤ val P
  ·refine (plus_down _ _ A B n m ca cb P Q w hne h1 k1 ln lm h4 k4 hle).mono ?_
   intro e w' h
   refine big_of_digs h om9 ?_
   rcases hab with ⟨h6, h7⟩ | ⟨h6, h7⟩
   ·rw [decide_eq_true h6, if_pos rfl]; omega
   ·rw [decide_eq_false h6, if_neg de9]; omega
  ·refine (plus_up _ _ A B n m ca cb P Q w hne h1 k1 ln lm h4 k4 om9).mono ?_
   intro e w' h
   refine big_of_digs h om9 ?_
   rcases hab with ⟨h6, h7⟩ | ⟨h6, h7⟩
   ·rw [decide_eq_false h7, if_neg de9]; omega
   ·rw [decide_eq_true h7, if_pos rfl]; omega
theorem plus_big (a b : Int) (u v : Value) (w : World) (hu : BigV w u a) (hv : BigV w v b) (ha : max a (-a) < pw 32) (hb : max b (-b) < pw 32) :
  Calls Tryz.prog 134 #[u, v] w (RetBig (a + b) w) :=
 (plus_new a b u v w hu hv ha hb).mono fun _ _ h => h.big
end
section
open Go.RowKit
end
end Go.Proofs.YthggkidiidnaoaaGreat
