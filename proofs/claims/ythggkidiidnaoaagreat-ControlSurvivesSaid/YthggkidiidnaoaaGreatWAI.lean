import Derived.Test.YthggkidiidnaoaaGreatWAA
import Derived.Test.YthggkidiidnaoaaGreatWAH
namespace Go.Proofs.YthggkidiidnaoaaGreat
set_option linter.unusedVariables false
set_option linter.unusedSimpArgs false
section
open Go.RowKit
set_option maxHeartbeats 8000000 in
set_option maxRecDepth 100000 in
theorem floor_big (a b : Int) (u v : Value) (w : World) (hu : BigV w u a) (hv : BigV w v b) (ha : max a (-a) < pw 10) (hb : max b (-b) < pw 8) (hb0 : b ≠ 0) :
  Calls Tryz.prog 87 #[u, v] w (RetNew w.heap.size (flo a b) w) := by
 obtain ⟨A, n, ca, P, rfl, hI, hnc, hn64, hP, hPv⟩ := hu
 obtain ⟨B, m, cb, Q, rfl, hJ, hmc, hm64, hQ, hQv⟩ := hv
 have hn10 := len_le_of_val hP (n := 10) (by rw [hPv]; exact ha)
 rw [hI.1] at hn10
 obtain ⟨Y, hY⟩ : ∃ Y, Y = max b (-b) := ⟨_, rfl⟩
 have hY0 : 0 < Y := by omega
 have HYB := Lib.hid (show Y < pw 8 by rw [hY]; exact hb)
 have HUN := Lib.hid (fun W (h : Below w.heap.size w W) => (show BigV W (.agg #[.bool false, .slice B m cb]) Y from ⟨B, m, cb, Q, by rw [decide_eq_false om9], hJ.below h, hmc, hm64, hQ, by rw [hQv]; omega⟩))
 have HPA := Lib.hid hI
 have HPC := Lib.hid hP
 have HPL := Lib.hid hI.1
 have HPV := Lib.hid hPv
 have HYE := Lib.hid hY
 have HA := Lib.hid ha
 obtain ⟨na, hna⟩ : ∃ x, decide (a < 0) = x := ⟨_, rfl⟩
 obtain ⟨nb, hnb⟩ : ∃ x, decide (b < 0) = x := ⟨_, rfl⟩
 have HNA := Lib.hid hna
 have HNB := Lib.hid hnb
 have HB0 := Lib.hid hb0
 rw [hna, hnb]
 clear hI hJ hP hQ hPv hQv hY hna hnb ha hb hb0
 have HTN := Lib.hid (fun (W : World) (h : W.heap[w.heap.size + 1 + 1]? = some (.cells #[.bool false, .slice none 0 0] 156 (0, 0))) (o : Nat) (ho : 2 ≤ o) => (show W.cell? ⟨w.heap.size + 1 + 1, o, none⟩ = none by rw [cell_of_row _ _ o _ _ _ h]; rcases o with _ | _ | o <;> first | omega | rfl))
 go_enter Tryz.func87, Tryz.ntmps87
 go_upto_region 1 with fail
 go_cut [5, 6] (fun s5 s6 wx => ∃ x y : Nat, s5 = .pointer (some ⟨x, 0, none⟩) ∧ s6 = .pointer (some ⟨y, 0, none⟩) ∧ x < wx.heap.size ∧ y < wx.heap.size ∧ w.heap.size + 1 + 1 < wx.heap.size ∧ wx.cell? ⟨x, 1, none⟩ = some (.slice A n ca) ∧ wx.cell? ⟨y, 0, none⟩ = some (.bool false) ∧ wx.cell? ⟨y, 1, none⟩ = some (.slice B m cb) ∧ wx.cell? ⟨w.heap.size, 0, none⟩ = some (.bool na) ∧ wx.cell? ⟨w.heap.size, 1, none⟩ = some (.slice A n ca) ∧ wx.cell? ⟨w.heap.size + 1, 0, none⟩ = some (.bool nb) ∧ wx.cell? ⟨w.heap.size + 1 + 1, 0, none⟩ = some (.bool false) ∧ wx.cell? ⟨w.heap.size + 1 + 1, 1, none⟩ = some (.slice none 0 0) ∧ wx.frozen? ⟨w.heap.size + 1 + 1, 0, none⟩ = false ∧ wx.frozen? ⟨w.heap.size + 1 + 1, 1, none⟩ = false ∧ (∀ o, 2 ≤ o → wx.cell? ⟨w.heap.size + 1 + 1, o, none⟩ = none) ∧ Below w.heap.size w wx)
 case first =>
  go_region
  all_goals go_wp2_with fail
  all_goals go_meet
  all_goals exact ⟨_, _, rfl, rfl, (by simp), (by simp), (by simp), (by go_simp), (by go_simp), (by go_simp), (by go_simp), (by go_simp), (by go_simp), (by go_simp), (by go_simp), (by go_simp), (by go_simp), (fun o ho => HTN.out _ (((show Below (w.heap.size + 1 + 1 + 1) (((w.alloc (.cells #[.bool na, .slice A n ca] 156)).alloc (.cells #[.bool nb, .slice B m cb] 156)).alloc (.cells #[.bool false, .slice none 0 0] 156)) _ from by (repeat first | with_reducible exact Below.refl _ _ | (with_reducible refine Below.alloc ?_ ?_ _; rotate_left; exact (by (simp; done))) | with_reducible refine Below.drew ?_)).block _ om9).trans (heap_new_at (by simp))) o ho), (by (repeat first | with_reducible exact Below.refl _ _ | (with_reducible refine Below.alloc ?_ ?_ _; rotate_left; exact (by first | omega | (simp; done) | (simp; omega))) | with_reducible refine Below.drew ?_))⟩
 case rest =>
  obtain ⟨x, y, rfl, rfl, hx, hy, hw2, x1, y0, y1, a0, a1, b0, r0, r1, f0, f1, htr, hB⟩ := hcut
  have HTR := Lib.hid htr
  clear htr
  obtain ⟨wo, rfl⟩ : ∃ wo : World, wo = wc := ⟨_, rfl⟩
  have hI0 : (Tryz.prog.info? 3).map (fun i => (i.zero, i.size, i.bytes)) = some (some (.int .i64 0), 1, 8) := by kernel_rfl
  obtain ⟨i0, hi, hz0, hz1, hz2⟩ := info_parts hI0
  obtain ⟨Z, hmk, hZ⟩ : ∃ Z : Array Value, (∀ W : World, (Instr.makeSlice 30 (.int .i64 (n : Int)) (.int .i64 (n : Int))).run Tryz.prog W = .ok (.slice (some ⟨W.heap.size, 0, none⟩) n n) (W.alloc (.cells Z 3))) ∧ Z = ((List.replicate n 0).map (Value.int .i64)).toArray := by
   refine ⟨_, fun W => ?_, rfl⟩
   have := run_make W 30 3 i0 (.int .i64 0) Tryz.underlying30 hi hz0 .i64 .i64 (n : Int) (n : Int) om9 (Int.le_refl _) (by rw [hz2]; omega) om9
   rw [this, hz1, show (n : Int).toNat = n by omega]
   have e : madeCells (Value.int .i64 0).cells (n * 1) = ((List.replicate n 0).map (Value.int .i64)).toArray := by
    apply Array.ext
    ·simp [madeCells]
    ·intro j h1 h2
     simp [madeCells, Value.cells, Nat.mod_one]
   rw [e]
  clear hi hz0 hz1 hz2 hI0
  have HZ := Lib.hid hZ
  clear hZ
  have HD0 := Lib.hid (divI_start P Y hY0)
  have lw0 : w.heap.size < wo.heap.size := by omega
  have lw1 : w.heap.size + 1 < wo.heap.size := by omega
  have lw2 : w.heap.size < wo.heap.size + 1 := by omega
  have lw3 : w.heap.size < wo.heap.size + 1 + 1 := by omega
  have lw4 : wo.heap.size < wo.heap.size + 1 + 1 := by omega
  go_wp2_with fail
  go_loopw [9, 10, 11, 12] (fun i _ _ _ wr => ∃ (k : Nat) (O : List Int) (A' : Option Addr) (k' c' : Nat) (r : Int), k ≤ n ∧ i = .int .i64 ((k : Int) - 1) ∧ DivI P O Y k r ∧ FQ wo wr n O A' k' c' ∧ BigV wr (.agg #[.bool false, .slice A' k' c']) r) (fun i _ _ _ _ => (intOf i + 1).toNat)
  case atStart =>
   refine ⟨n, List.replicate n 0, none, 0, 0, 0, Nat.le_refl _, rfl, (by have := HD0.out; rwa [HPL.out] at this), ⟨(by (repeat first | with_reducible exact Below.refl _ _ | (with_reducible refine Below.alloc ?_ ?_ _; rotate_left; exact (by first | omega | (simp; done) | (simp; omega))))), ?_, (by go_simp), (by go_simp), (by go_simp), (by go_simp), (by go_simp), (by go_simp), (by go_simp), (by go_simp), (by simp), fun o ho => by (rw [cell_of_row _ _ o _ _ _ (heap_new_at (by simp))]; rcases o with _ | _ | o <;> first | omega | rfl), fun o ho => by (rw [cell_of_row _ _ o _ _ _ ((Below.heap_alloc _ _ _ (by simp)).trans (heap_new_at (by simp)))]; rcases o with _ | _ | o <;> first | omega | rfl)⟩, ⟨none, 0, 0, [], rfl, ⟨rfl, fun h => absurd h om9⟩, Nat.le_refl _, by omega, ⟨(fun d h => by cases h), fun d h => by cases h⟩, rfl⟩⟩
   unfold RowI
   rw [← HZ.out]
   exact (Below.heap_alloc _ _ _ (by (simp; omega))).trans ((Below.heap_alloc _ _ _ (by (simp; done))).trans (heap_new_at rfl))
  case round =>
   obtain ⟨k, O, A', k', c', r, hk, rfl, hD, hF, hV⟩ := hrel
   obtain ⟨w4, rfl⟩ : ∃ w4 : World, w4 = wr := ⟨_, rfl⟩
   have HD := Lib.hid hD
   have HF := Lib.hid hF
   have HV := Lib.hid hV
   obtain ⟨hB2, _, q0, q1, fq0, fq1, t0, t1, ft0, ft1, hs⟩ := hF
   clear hD hV
   have g0 := (hB2.cell (p := ⟨w.heap.size, 1, none⟩) lw0).trans a1
   have g1 := (hB2.cell (p := ⟨y, 0, none⟩) hy).trans y0
   have g2 := (hB2.cell (p := ⟨y, 1, none⟩) hy).trans y1
   rcases k with _ | k
   ·go_upto_region 16 with fail
    have HE := Lib.hid (divI_end HD.out)
    have HOL := Lib.hid HD.out.1
    have HOD := Lib.hid HD.out.2.1
    have g3 := (hB2.cell (p := ⟨w.heap.size, 0, none⟩) lw0).trans a0
    have g4 := (hB2.cell (p := ⟨w.heap.size + 1, 0, none⟩) lw1).trans b0
    have g5 := (hB2.cell (p := ⟨x, 1, none⟩) hx).trans x1
    have r2 := (hB2.cell (p := ⟨w.heap.size + 1 + 1, 0, none⟩) hw2).trans r0
    have r3 := (hB2.cell (p := ⟨w.heap.size + 1 + 1, 1, none⟩) hw2).trans r1
    have HTR4 := Lib.hid (fun o (ho : 2 ≤ o) => (hB2.cell (p := ⟨w.heap.size + 1 + 1, o, none⟩) hw2).trans (HTR.out o ho))
    have f2 := (hB2.frozen (p := ⟨w.heap.size + 1 + 1, 0, none⟩) hw2).trans f0
    have f3 := (hB2.frozen (p := ⟨w.heap.size + 1 + 1, 1, none⟩) hw2).trans f1
    have HW4 := Lib.hid (hB.trans (hB2.mono hB.size))
    have hl0 : wo.heap.size + 1 < w4.heap.size := by omega
    have hl1 : w.heap.size < w4.heap.size := by omega
    have hl2 : w.heap.size + 1 < w4.heap.size := by omega
    have hl3 : w.heap.size + 1 + 1 < w4.heap.size := by omega
    have hx4 : x < w4.heap.size := by have := hB2.size; omega
    go_wp2_with fail
    refine (trim_any wo.heap.size false (some ⟨wo.heap.size, 0, none⟩) n n O _ (by have := HF.out.row.isI (base := wo.heap.size) (Nat.le_refl _); rwa [HOL.out, HPL.out] at this) (Nat.le_refl _) om9 HOD.out).mono ?_
    rintro e w7 ⟨A2, k2, c2, rfl, hI2, hk2c, hk2n, hR2c, hR2v, hb⟩
    have HB7 := Lib.hid (HW4.out.trans (hb.mono HW4.out.size))
    have V7 := Lib.hid (show RestV w7 w.heap.size A2 k2 c2 (max a (-a) / Y) from ⟨O.take k2, hI2.mono om9, hk2c, by omega, hR2c, by rw [hR2v, HE.out.1, HPV.out]⟩)
    have HR7 := Lib.hid ((HV.out.below hb).rest)
    have F7 := Lib.hid (HF.out.call hb hs)
    have c7 : ∀ b o, b < w4.heap.size → w7.cell? ⟨b, o, none⟩ = w4.cell? ⟨b, o, none⟩ := fun b o hh => hb.cell (p := ⟨b, o, none⟩) hh
    have m7 : ∀ b o, b < w4.heap.size → w7.frozen? ⟨b, o, none⟩ = w4.frozen? ⟨b, o, none⟩ := fun b o hh => hb.frozen (p := ⟨b, o, none⟩) hh
    have z7 := hb.size
    have g3 := (c7 _ _ hl1).trans g3
    have g4 := (c7 _ _ hl2).trans g4
    have g5 := (c7 _ _ hx4).trans g5
    have r2 := (c7 _ _ hl3).trans r2
    have r3 := (c7 _ _ hl3).trans r3
    have HTR7 := Lib.hid (fun o (ho : 2 ≤ o) => (c7 _ o hl3).trans (HTR4.out o ho))
    have f2 := (m7 _ _ hl3).trans f2
    have f3 := (m7 _ _ hl3).trans f3
    have q0 := F7.out.q0
    have q1 := F7.out.q1
    have fq0 := F7.out.fq0
    have fq1 := F7.out.fq1
    clear hI2 hR2c hR2v hb c7 m7 t0 t1 ft0 ft1 hl1 hl2 hl3 hx4 hB2 hB g0 g1 g2 a0 a1 b0 y0 y1 x1 r0 r1 f0 f1
    go_upto_region 17 with fail
    have V8 := Lib.hid (V7.out.far q0 q1 F7.out.tq (.bool false) (.slice A2 k2 c2))
    have U8 := Lib.hid (((HR7.out.far F7.out.q0 F7.out.q1 F7.out.tq (.bool false) (.slice A2 k2 c2))))
    have B8 := Lib.hid ((HB7.out.setCell (p := ⟨wo.heap.size + 1, 0, none⟩) (by (simp; omega)) (.bool false)).setCell (p := ⟨wo.heap.size + 1, 1, none⟩) (by (simp; omega)) (.slice A2 k2 c2))
    have e3 := (set_far (p := .bool false) (q := .slice A2 k2 c2) (show wo.heap.size + 1 ≠ w.heap.size by omega)).trans g3
    have e4 := (set_far (p := .bool false) (q := .slice A2 k2 c2) (show wo.heap.size + 1 ≠ w.heap.size + 1 by omega)).trans g4
    have e5 := (set_far (p := .bool false) (q := .slice A2 k2 c2) (show wo.heap.size + 1 ≠ x by omega)).trans g5
    have e6 := (set_far (p := .bool false) (q := .slice A2 k2 c2) (show wo.heap.size + 1 ≠ w.heap.size + 1 + 1 by omega)).trans r2
    have e7 := (set_far (p := .bool false) (q := .slice A2 k2 c2) (show wo.heap.size + 1 ≠ w.heap.size + 1 + 1 by omega)).trans r3
    have e8 := (set_far (p := .bool false) (q := .slice A2 k2 c2) (show wo.heap.size + 1 ≠ wo.heap.size + 1 + 1 by omega)).trans F7.out.t1
    obtain ⟨e9, ea⟩ := set_two (p := .bool false) (q := .slice A2 k2 c2) q0 q1
    have eb : ((w7.setCell ⟨wo.heap.size + 1, 0, none⟩ (.bool false)).setCell ⟨wo.heap.size + 1, 1, none⟩ (.slice A2 k2 c2)).frozen? ⟨w.heap.size + 1 + 1, 0, none⟩ = false := by rw [World.frozen?_setCell, World.frozen?_setCell]; exact f2
    have ec : ((w7.setCell ⟨wo.heap.size + 1, 0, none⟩ (.bool false)).setCell ⟨wo.heap.size + 1, 1, none⟩ (.slice A2 k2 c2)).frozen? ⟨w.heap.size + 1 + 1, 1, none⟩ = false := by rw [World.frozen?_setCell, World.frozen?_setCell]; exact f3
    have ed : ((w7.setCell ⟨wo.heap.size + 1, 0, none⟩ (.bool false)).setCell ⟨wo.heap.size + 1, 1, none⟩ (.slice A2 k2 c2)).frozen? ⟨wo.heap.size + 1, 0, none⟩ = false := by rw [World.frozen?_setCell, World.frozen?_setCell]; exact fq0
    have ee : ((w7.setCell ⟨wo.heap.size + 1, 0, none⟩ (.bool false)).setCell ⟨wo.heap.size + 1, 1, none⟩ (.slice A2 k2 c2)).frozen? ⟨wo.heap.size + 1, 1, none⟩ = false := by rw [World.frozen?_setCell, World.frozen?_setCell]; exact fq1
    have T8 := Lib.hid (fun o (ho : 2 ≤ o) => (show ((w7.setCell ⟨wo.heap.size + 1, 0, none⟩ (.bool false)).setCell ⟨wo.heap.size + 1, 1, none⟩ (.slice A2 k2 c2)).cell? ⟨wo.heap.size + 1, o, none⟩ = none by rw [World.cell?_setCell_other _ _ _ _ (by (simp; done)), World.cell?_setCell_other _ _ _ _ (by (simp; done))]; exact F7.out.tq o ho))
    have HTR8 := Lib.hid (fun o (ho : 2 ≤ o) => (set_far (p := .bool false) (q := .slice A2 k2 c2) (show wo.heap.size + 1 ≠ w.heap.size + 1 + 1 by omega)).trans (HTR7.out o ho))
    have z8 : wo.heap.size + 1 + 1 < ((w7.setCell ⟨wo.heap.size + 1, 0, none⟩ (.bool false)).setCell ⟨wo.heap.size + 1, 1, none⟩ (.slice A2 k2 c2)).heap.size := by rw [World.size_setCell, World.size_setCell]; exact F7.out.hs
    clear g3 g4 g5 r2 r3 f2 f3 q0 q1 fq0 fq1 F7 V7 HR7 z7
    generalize (w7.setCell ⟨wo.heap.size + 1, 0, none⟩ (.bool false)).setCell ⟨wo.heap.size + 1, 1, none⟩ (.slice A2 k2 c2) = w8 at *
    have x0' : 0 ≤ max a (-a) / Y := Int.ediv_nonneg om9 om9
    have hl1 : w.heap.size + 1 + 1 < w8.heap.size := by omega
    have hB8 := B8.out
    by_cases hs : (na == nb) = true
    ·have HFL := Lib.hid (floor_same (a := a) (b := b) HB0.out (.inl (by rw [HNA.out, HNB.out]; exact hs)))
     rw [← HYE.out] at HFL
     go_wp2
     exact bodyPost_ret (res2b Tryz.results87 _ _ _ _ _ rfl (by (try simp only [isSome_setCell]); first | assumption | go_simp) (by (try simp only [isSome_setCell]); first | assumption | go_simp)) rfl ⟨_, rfl, by (rw [← HFL.out]; exact (V8.out.far e6 e7 HTR8.out _ _).bigB x0'), by (repeat first | with_reducible assumption | (with_reducible refine Below.setCell ?_ ?_ _; rotate_left; exact (by (simp; omega))))⟩
    ·have hs : (na == nb) = false := by simpa using hs
     by_cases hn0 : n = 0
     ·subst hn0
      have hP0 : P = [] := List.eq_nil_of_length_eq_zero HPL.out
      have ha0 : a = 0 := by have := HPV.out; rw [hP0] at this; have h0 : (0 : Int) = max a (-a) := this; omega
      have HFL := Lib.hid (floor_same (a := a) (b := b) HB0.out (.inr ha0))
      rw [← HYE.out] at HFL
      clear hP0 ha0
      go_wp2
      exact bodyPost_ret (res2b Tryz.results87 _ _ _ _ _ rfl (by (try simp only [isSome_setCell]); first | assumption | go_simp) (by (try simp only [isSome_setCell]); first | assumption | go_simp)) rfl ⟨_, rfl, by (rw [← HFL.out]; exact (V8.out.far e6 e7 HTR8.out _ _).bigB x0'), by (repeat first | with_reducible assumption | (with_reducible refine Below.setCell ?_ ?_ _; rotate_left; exact (by (simp; omega))))⟩
     ·have hn1 : ((n : Int) == 0) = false := by rw [beq_eq_false_iff_ne]; omega
      have HFL := Lib.hid (floor_diff (a := a) (b := b) HB0.out (by rw [HNA.out, HNB.out]; exact hs))
      rw [← HYE.out] at HFL
      have hkr : k' = 0 ↔ r = 0 := by
       obtain ⟨R, i1, i2, i3, i4, i5⟩ := U8.out
       have := canon_nil i4
       rw [i5] at this
       rw [← i1.1]
       constructor
       ·intro h0; exact this.2 (List.eq_nil_of_length_eq_zero h0)
       ·intro h0; rw [this.1 h0]; rfl
      have hr0 := HD.out.2.2.1
      have HRE := Lib.hid (show r = max a (-a) % Y by rw [HE.out.2, HPV.out])
      by_cases hk0 : k' = 0
      ·have hr : r = 0 := hkr.1 hk0
       subst hk0
       have HFM := Lib.hid (show -(max a (-a) / Y) = flo a b by rw [← HFL.out, if_neg (by rw [← HRE.out]; omega), Int.add_zero])
       have hl2 : w.heap.size < w8.heap.size := by omega
       clear hkr hr
       go_wp2_with fail
       refine (minus_new w.heap.size (max a (-a) / Y) _ _ (V8.out.bigB x0')).mono ?_
       rintro e w9 ⟨u9, rfl, V9, hb⟩
       have hB9 : Below w.heap.size w w9 := hB8.trans (hb.mono hB8.size)
       obtain ⟨n9, A9, k9, c9, rfl, V9⟩ := V9.open'
       have V9 := Lib.hid V9
       have t6 := (hb.cell (p := ⟨w.heap.size + 1 + 1, 0, none⟩) hl1).trans e6
       have t7 := (hb.cell (p := ⟨w.heap.size + 1 + 1, 1, none⟩) hl1).trans e7
       have tb := (hb.frozen (p := ⟨w.heap.size + 1 + 1, 0, none⟩) hl1).trans eb
       have tc := (hb.frozen (p := ⟨w.heap.size + 1 + 1, 1, none⟩) hl1).trans ec
       have HTR9 := Lib.hid (fun o (ho : 2 ≤ o) => (hb.cell (p := ⟨w.heap.size + 1 + 1, o, none⟩) hl1).trans (HTR8.out o ho))
       clear hb
       go_wp2
       exact bodyPost_ret (res2b Tryz.results87 _ _ _ _ _ rfl (by (try simp only [isSome_setCell]); first | assumption | go_simp) (by (try simp only [isSome_setCell]); first | assumption | go_simp)) rfl ⟨_, rfl, by (rw [← HFM.out]; exact V9.out.far t6 t7 HTR9.out _ _), by (repeat first | with_reducible assumption | (with_reducible refine Below.setCell ?_ ?_ _; rotate_left; exact (by (simp; omega))))⟩
      ·have hr : 0 < r := by omega
       have HFM := Lib.hid (show -(max a (-a) / Y + 1) = flo a b by rw [← HFL.out, if_pos (by rw [← HRE.out]; omega)])
       have hl2 : w.heap.size < w8.heap.size := by omega
       have hkp : 0 < k' := by omega
       have hkq : (0 : Int) < k' := by omega
       clear hkr hr
       have H32 := Lib.hid (show max (max a (-a) / Y) (-(max a (-a) / Y)) < pw 32 by have h5 := pw_mono (show 10 ≤ 32 by decide); have h6 := HA.out; have h7 := Int.ediv_le_self (a := max a (-a)) Y om9; omega)
       have H33 := Lib.hid (show max (1 : Int) (-1) < pw 32 by decide)
       go_upto_region 20 with fail
       go_cut [] (fun wx => ∃ (A2 : Option Addr) (k2 c2 : Nat), BigB wx w.heap.size (.agg #[.bool false, .slice A2 k2 c2]) (max a (-a) / Y + 1) ∧ wx.cell? ⟨wo.heap.size + 1, 0, none⟩ = some (.bool false) ∧ wx.cell? ⟨wo.heap.size + 1, 1, none⟩ = some (.slice A2 k2 c2) ∧ wx.cell? ⟨w.heap.size + 1 + 1, 0, none⟩ = some (.bool false) ∧ wx.cell? ⟨w.heap.size + 1 + 1, 1, none⟩ = some (.slice none 0 0) ∧ wx.frozen? ⟨w.heap.size + 1 + 1, 0, none⟩ = false ∧ wx.frozen? ⟨w.heap.size + 1 + 1, 1, none⟩ = false ∧ (∀ o, 2 ≤ o → wx.cell? ⟨w.heap.size + 1 + 1, o, none⟩ = none) ∧ w.heap.size + 1 + 1 < wx.heap.size ∧ Below w.heap.size w wx)
       case first =>
        have hl4 : wo.heap.size + 1 < w8.heap.size := by omega
        go_region_with (first | (go_at_call 89; refine (of_big 1 _ om9 om9).mono ?_; rintro e w1 ⟨u1, rfl, V1, hb⟩; have hq1 : Below w8.heap.size w8 w1 := ⟨hb.os, hb.tape, hb.output, hb.size, hb.block⟩; have p0 := (hq1.cell (p := ⟨wo.heap.size + 1, 0, none⟩) hl4).trans e9; have p1 := (hq1.cell (p := ⟨wo.heap.size + 1, 1, none⟩) hl4).trans ea; (skip); (try simp only [World.size_alloc, World.size_setCell, size_drew, size_drewN] at hk); obtain ⟨hc, hf⟩ := bcell hb; have hs := hb.size; (try simp only [World.size_alloc, World.size_setCell, size_drew, size_drewN] at hs)) | (go_at_call 134; refine (plus_new (max a (-a) / Y) 1 _ _ _ ((V8.out.big x0').below hq1) V1 H32.out H33.out).mono ?_; rintro e w7 ⟨u7, rfl, V7, hb⟩; obtain ⟨A7, k7, c7, R7, rfl, i7⟩ := V7; have hdd : decide (max a (-a) / Y + 1 < 0) = false := decide_eq_false om9; have V7 := Lib.hid (show BigB w7 w.heap.size (.agg #[.bool false, .slice A7 k7 c7]) (max a (-a) / Y + 1) from BigB.mono (base := w1.heap.size) ⟨A7, k7, c7, R7, by rw [hdd], i7⟩ (by have := hq1.size; omega)); rw [hdd]; have hT : Below w8.heap.size w8 w7 := hq1.trans (hb.mono hq1.size); have s0 := (hT.cell (p := ⟨wo.heap.size + 1, 0, none⟩) hl4).trans e9; have s1 := (hT.cell (p := ⟨wo.heap.size + 1, 1, none⟩) hl4).trans ea; have s2 := (hT.frozen (p := ⟨wo.heap.size + 1, 0, none⟩) hl4).trans ed; have s3 := (hT.frozen (p := ⟨wo.heap.size + 1, 1, none⟩) hl4).trans ee; have HT := Lib.hid hT; clear hdd i7))
        all_goals go_wp2_with fail
        all_goals go_meet
        all_goals exact ⟨A7, k7, c7, V7.out.far s0 s1 (fun o ho => (HT.out.cell (p := ⟨wo.heap.size + 1, o, none⟩) hl4).trans (T8.out o ho)) _ _, (set_two s0 s1).1, (set_two s0 s1).2, (set_far om9).trans ((HT.out.cell (p := ⟨w.heap.size + 1 + 1, 0, none⟩) hl1).trans e6), (set_far om9).trans ((HT.out.cell (p := ⟨w.heap.size + 1 + 1, 1, none⟩) hl1).trans e7), (by rw [World.frozen?_setCell, World.frozen?_setCell]; exact (HT.out.frozen (p := ⟨w.heap.size + 1 + 1, 0, none⟩) hl1).trans eb), (by rw [World.frozen?_setCell, World.frozen?_setCell]; exact (HT.out.frozen (p := ⟨w.heap.size + 1 + 1, 1, none⟩) hl1).trans ec), (fun o ho => (set_far om9).trans ((HT.out.cell (p := ⟨w.heap.size + 1 + 1, o, none⟩) hl1).trans (HTR8.out o ho))), (by rw [World.size_setCell, World.size_setCell]; have := HT.out.size; omega), ((hB8.trans (HT.out.mono hB8.size)).setCell (by (simp; omega)) _).setCell (by (simp; omega)) _⟩
       case rest =>
        obtain ⟨A2', k2', c2', hV, e9, ea, e6, e7, eb, ec, htr, hl1, hB8⟩ := hcut
        have V8 := Lib.hid hV
        have HTR8 := Lib.hid htr
        have hl2 : w.heap.size < wc.heap.size := by omega
        clear hV htr
        go_wp2_with fail
        refine (minus_new w.heap.size (max a (-a) / Y + 1) _ _ V8.out).mono ?_
        rintro e w9 ⟨u9, rfl, V9, hb⟩
        have hB9 : Below w.heap.size w w9 := hB8.trans (hb.mono hB8.size)
        obtain ⟨n9, A9, k9, c9, rfl, V9⟩ := V9.open'
        have V9 := Lib.hid V9
        have t6 := (hb.cell (p := ⟨w.heap.size + 1 + 1, 0, none⟩) hl1).trans e6
        have t7 := (hb.cell (p := ⟨w.heap.size + 1 + 1, 1, none⟩) hl1).trans e7
        have tb := (hb.frozen (p := ⟨w.heap.size + 1 + 1, 0, none⟩) hl1).trans eb
        have tc := (hb.frozen (p := ⟨w.heap.size + 1 + 1, 1, none⟩) hl1).trans ec
        have HTR9 := Lib.hid (fun o (ho : 2 ≤ o) => (hb.cell (p := ⟨w.heap.size + 1 + 1, o, none⟩) hl1).trans (HTR8.out o ho))
        clear hb
        go_wp2
        exact bodyPost_ret (res2b Tryz.results87 _ _ _ _ _ rfl (by (try simp only [isSome_setCell]); first | assumption | go_simp) (by (try simp only [isSome_setCell]); first | assumption | go_simp)) rfl ⟨_, rfl, by (rw [← HFM.out]; exact V9.out.far t6 t7 HTR9.out _ _), by (repeat first | with_reducible assumption | (with_reducible refine Below.setCell ?_ ?_ _; rotate_left; exact (by (simp; omega))))⟩
   ·rw [show ((k + 1 : Nat) : Int) - 1 = k by omega]
    have k0 : (0 : Int) ≤ k := by omega
    have k1 : (k : Int) < n := by omega
    obtain ⟨pa, po, rfl, _, hpl, hpc⟩ := HPA.out.2 om9
    have d0 := (hB2.cell (p := ⟨pa, po + k, none⟩) (by (simp; omega))).trans ((hB.cell (p := ⟨pa, po + k, none⟩) hpl).trans (hpc k om9))
    have hdg := digs_getD HPC.out.1 k
    have hst := (fun q h0 h1 l u => divI_step (q := q) (by rw [HPL.out]; omega) HD.out h0 h1 l u)
    have HST := Lib.hid hst
    have r0' := HD.out.2.2.1
    have r1' := HD.out.2.2.2.1
    obtain ⟨R0, hR0, hkc, hk64, hRC, hRV⟩ := HV.out.rest
    have hk8 := len_le_of_val hRC (n := 8) (by rw [hRV]; have := HYB.out; omega)
    rw [hR0.1] at hk8
    clear hpc hst
    generalize P.getD k 0 = d at *
    obtain ⟨dg0, dg1⟩ := hdg
    have HR0 := Lib.hid hR0
    have HRC := Lib.hid (show Digs (d :: R0) from fun e he => by
     rcases List.mem_cons.1 he with h1 | h1
     ·rw [h1]; exact ⟨dg0, dg1⟩
     ·exact hRC.1 e h1)
    have HRV := Lib.hid (show val (d :: R0) = d + 10000 * r from by rw [← hRV]; rfl)
    clear hR0 hRC hRV hk64
    go_wp2_with fail
    go_cut [] (fun wx => ∃ (A1 : Option Addr) (k1 c1 : Nat), FQ wo wx n O A1 k1 c1 ∧ RestV wx w4.heap.size A1 k1 c1 (d + 10000 * r) ∧ w4.heap.size ≤ wx.heap.size)
    case first =>
     go_region_law (first | (refine prepend_step _ rfl (.tmp 38) (.tmp 40) rfl w4.heap.size d (by rfl) (by exact heap_alloc_new _ _) A' k' c' R0 (by rfl) (HR0.out.below (by (repeat first | with_reducible exact Below.refl _ _ | (with_reducible refine Below.alloc ?_ ?_ _; rotate_left; exact om9) | with_reducible refine Below.drew ?_))) om9 ?_; intro A1 c1 w1 hI1 hc1 hb1) | (go_simp; go_at_call 132; refine (trim_any w4.heap.size false A1 (k' + 1) c1 (d :: R0) _ hI1 hc1 om9 HRC.out).mono ?_; rintro e w2 ⟨A2, k2, c2, rfl, hI2, hq1, hq2, hq3, hq4, hb2⟩; have F3 := Lib.hid (((HF.out.drew.call ((Below.refl _ _).alloc (Nat.le_refl _) (.cells #[.int .i64 d] 3)) hs).call hb1 hs).call hb2 (by have := hb1.size; simp at this; omega)); have s0 := F3.out.t0; have s1 := F3.out.t1; have s2 := F3.out.ft0; have s3 := F3.out.ft1; have HI2 := Lib.hid hI2; have HQ3 := Lib.hid hq3; have HQ4 := Lib.hid (hq4.trans HRV.out); clear hI2 hq3 hq4))
     all_goals go_wp2_with fail
     all_goals go_meet
     all_goals exact ⟨A2, k2, c2, F3.out.storeT, ⟨(d :: R0).take k2, (HI2.out.setCell om9 _).setCell om9 _, hq1, by omega, HQ3.out, HQ4.out⟩, (by have h5 := hb1.size; have h6 := hb2.size; (try simp only [World.size_setCell]); simp at h5; omega)⟩
    case rest =>
     obtain ⟨A1, k1, c1, hF1, hV1, hs1⟩ := hcut
     obtain ⟨w5, rfl⟩ : ∃ w5 : World, w5 = wc := ⟨_, rfl⟩
     have HF1 := Lib.hid hF1
     have HV1 := Lib.hid hV1
     have hs2 := hF1.hs
     have HB5 := Lib.hid (hB.trans (hF1.hB.mono hB.size))
     have HYX := Lib.hid hF1.hB
     obtain ⟨z, hz⟩ : ∃ z, d + 10000 * r = z := ⟨_, rfl⟩
     have hz0 : 0 ≤ z := by omega
     have hz1 : z < Y * 10000 := by omega
     rw [hz] at HV1 HST
     have HZ5 := Lib.hid hz
     have h59 : pw 9 = 10000 * pw 8 := rfl
     have HZ9 := Lib.hid (show z < pw 9 by have := HYB.out; omega)
     clear hF1 hV1 hz h59 q0 q1 fq0 fq1 t0 t1 ft0 ft1 g0 g1 g2 d0
     go_wp2_with fail
     go_loopw [10, 11, 12] (fun lo hi _ wr => ∃ l h : Int, lo = .int .i64 l ∧ hi = .int .i64 h ∧ 0 ≤ l ∧ l < h ∧ h ≤ 10000 ∧ Y * l ≤ z ∧ z < Y * h ∧ FQ wo wr n O A1 k1 c1 ∧ Below w5.heap.size w5 wr) (fun lo hi _ _ => (intOf hi - intOf lo).toNat)
     case atStart => exact ⟨0, 10000, rfl, rfl, Int.le_refl _, by omega, Int.le_refl _, by rw [Int.mul_zero]; exact hz0, hz1, HF1.out, Below.refl _ _⟩
     case round =>
      obtain ⟨l, h, rfl, rfl, l0, lh, h1, ll, lu, hF2, hB6⟩ := hrel
      obtain ⟨wi, rfl⟩ : ∃ wi : World, wi = wr := ⟨_, rfl⟩
      have HF2 := Lib.hid hF2
      have HB6 := Lib.hid hB6
      have HBI := Lib.hid (HB5.out.trans (hB6.mono HB5.out.size))
      have g1 := ((HYX.out.trans (hB6.mono HYX.out.size)).cell (p := ⟨y, 0, none⟩) hy).trans y0
      have g2 := ((HYX.out.trans (hB6.mono HYX.out.size)).cell (p := ⟨y, 1, none⟩) hy).trans y1
      have hs3 := hF2.hs
      have hs4 := hB6.size
      have hwi : w.heap.size < wi.heap.size := by omega
      have hyi : y < wi.heap.size := by omega
      by_cases hd : h - l ≤ 1
      ·have hhl : h = l + 1 := by omega
       subst hhl
       have HST2 := Lib.hid (HST.out l l0 om9 ll lu)
       have q1 := hF2.q1
       have o0 := hF2.row.cell (p := k) (by rw [HD.out.1, HPL.out]; omega)
       have of0 := hF2.row.frozen k
       clear hF2 hB6 lu
       go_upto_region 15 with fail
       have hF6 := HF2.out.storeQ k l
       have hB7 : Below w5.heap.size w5 (wi.setCell ⟨wo.heap.size, k, none⟩ (.int .i64 l)) ∨ True := .inr trivial
       have hV6 := ((HV1.out.below HB6.out).setCell (p := ⟨wo.heap.size, k, none⟩) (by (simp; omega)) (.int .i64 l)).big hz0
       have hU6 := HUN.out (wi.setCell ⟨wo.heap.size, k, none⟩ (.int .i64 l)) (HBI.out.setCell (by (simp; omega)) _)
       have g1' : (wi.setCell ⟨wo.heap.size, k, none⟩ (.int .i64 l)).cell? ⟨y, 0, none⟩ = some (.bool false) := by rw [World.cell?_setCell_other _ _ _ _ (by (simp; done))]; exact g1
       have g2' : (wi.setCell ⟨wo.heap.size, k, none⟩ (.int .i64 l)).cell? ⟨y, 1, none⟩ = some (.slice B m cb) := by rw [World.cell?_setCell_other _ _ _ _ (by (simp; done))]; exact g2
       have hs6 : wo.heap.size + 1 + 1 < (wi.setCell ⟨wo.heap.size, k, none⟩ (.int .i64 l)).heap.size := by rw [World.size_setCell]; exact hs3
       have HF6 := Lib.hid hF6
       have HV6 := Lib.hid hV6
       have HU6 := Lib.hid hU6
       clear hB7 hF6 hV6 hU6 g1 g2 q1 o0 of0 HB6 HBI HF2 hs3 hs4 hwi hyi
       generalize wi.setCell ⟨wo.heap.size, k, none⟩ (.int .i64 l) = w6 at *
       have t0 := HF6.out.t0
       have t1 := HF6.out.t1
       have hy6 : y < w6.heap.size := by omega
       have H16 := Lib.hid (show max Y (-Y) < pw 16 by have h5 := pw_mono (show 8 ≤ 16 by decide); have := HYB.out; omega)
       have H17 := Lib.hid (show max l (-l) < pw 16 by have h5 := pw_mono (show 5 ≤ 16 by decide); rw [pw_five] at h5; omega)
       have hyl : 0 ≤ Y * l := Int.mul_nonneg om9 om9
       have H32 := Lib.hid (show max z (-z) < pw 32 by have h5 := pw_mono (show 9 ≤ 32 by decide); have := HZ9.out; omega)
       have H33 := Lib.hid (show max (-(Y * l)) (- -(Y * l)) < pw 32 by have h5 := pw_mono (show 9 ≤ 32 by decide); have := HZ9.out; omega)
       have hzl : 0 ≤ z + -(Y * l) := by omega
       have HZL := Lib.hid (show decide (z + -(Y * l) < 0) = false from decide_eq_false om9)
       have HZS := Lib.hid (show z - Y * l = z + -(Y * l) by omega)
       clear ll hyl hzl
       go_region_with (first | (go_at_call 89; refine (of_big l _ om9 om9).mono ?_; rintro e w1 ⟨u1, rfl, V1, hb⟩; have hq1 : Below w6.heap.size w6 w1 := ⟨hb.os, hb.tape, hb.output, hb.size, hb.block⟩; have p0 := (hq1.cell (p := ⟨wo.heap.size + 1 + 1, 0, none⟩) hs6).trans t0; have p1 := (hq1.cell (p := ⟨wo.heap.size + 1 + 1, 1, none⟩) hs6).trans t1; have p2 := (hq1.cell (p := ⟨y, 0, none⟩) hy6).trans g1'; have p3 := (hq1.cell (p := ⟨y, 1, none⟩) hy6).trans g2'; (skip); (try simp only [World.size_alloc, World.size_setCell, size_drew, size_drewN] at hk); obtain ⟨hc, hf⟩ := bcell hb; have hs := hb.size; (try simp only [World.size_alloc, World.size_setCell, size_drew, size_drewN] at hs)) | (go_at_call 88; refine (times_big Y l _ _ _ (HU6.out.below ra9) V1 H16.out H17.out).mono ?_; rintro e w2 ⟨u2, rfl, V2, hb⟩; have hq2 : Below w6.heap.size w6 w2 := hq1.trans (hb.mono hq1.size); have p0 := (hq2.cell (p := ⟨wo.heap.size + 1 + 1, 0, none⟩) hs6).trans t0; have p1 := (hq2.cell (p := ⟨wo.heap.size + 1 + 1, 1, none⟩) hs6).trans t1; (skip); (try simp only [World.size_alloc, World.size_setCell, size_drew, size_drewN] at hk); obtain ⟨hc, hf⟩ := bcell hb; have hs := hb.size; (try simp only [World.size_alloc, World.size_setCell, size_drew, size_drewN] at hs)) | (go_at_call 135; refine (minus_big (Y * l) _ _ V2).mono ?_; rintro e w3 ⟨u3, rfl, V3, hb⟩; have hT3 : Below w6.heap.size w6 w3 := hq2.trans (hb.mono hq2.size); have p0 := (hT3.cell (p := ⟨wo.heap.size + 1 + 1, 0, none⟩) hs6).trans t0; have p1 := (hT3.cell (p := ⟨wo.heap.size + 1 + 1, 1, none⟩) hs6).trans t1; (skip); (try simp only [World.size_alloc, World.size_setCell, size_drew, size_drewN] at hk); obtain ⟨hc, hf⟩ := bcell hb; have hs := hb.size; (try simp only [World.size_alloc, World.size_setCell, size_drew, size_drewN] at hs)) | (go_at_call 134; refine (plus_big z (-(Y * l)) _ _ _ (HV6.out.below hT3) V3 H32.out H33.out).mono ?_; rintro e w7 ⟨u7, rfl, V7, hb⟩; obtain ⟨A2, k2, c2, R2, rfl, hI2, hk2c, hk264, hR2c, hR2v⟩ := V7; rw [HZL.out]; have hT : Below w6.heap.size w6 w7 := hT3.trans (hb.mono hT3.size); have F7 := Lib.hid (HF6.out.call hT om9); have V7 := Lib.hid (show RestV w7 0 A2 k2 c2 (z + -(Y * l)) from ⟨R2, hI2, hk2c, hk264, hR2c, (by have h9 := of_decide_eq_false HZL.out; omega)⟩); have s0 := F7.out.t0; have s1 := F7.out.t1; have s2 := F7.out.ft0; have s3 := F7.out.ft1; clear hI2 hR2c hR2v))
       all_goals go_wp2_with fail
       all_goals go_roundw
       all_goals first
        | exact ⟨k, O.set k l, A2, k2, c2, z - Y * l, by omega, (by rfl), HST2.out, F7.out.storeT, (by rw [HZS.out]; exact (V7.out.far s0 s1 F7.out.tn _ _).big (by have h9 := of_decide_eq_false HZL.out; omega))⟩
        | (simp [intOf]; done)
        | (simp [intOf]; omega)
      ·obtain ⟨mm, hm⟩ : ∃ m, (l + h) / 2 = m := ⟨_, rfl⟩
       have m1 : l < mm := by omega
       have m2 : mm < h := by omega
       have HT : (l + h).tdiv 2 = mm := by rw [Int.tdiv_eq_ediv_of_nonneg om9]; exact hm
       have HM := Lib.hid hm
       have t0 := hF2.t0
       have t1 := hF2.t1
       have H16 := Lib.hid (show max Y (-Y) < pw 16 by have h5 := pw_mono (show 8 ≤ 16 by decide); have := HYB.out; omega)
       have H17 := Lib.hid (show max mm (-mm) < pw 16 by have h5 := pw_mono (show 5 ≤ 16 by decide); rw [pw_five] at h5; omega)
       have hym : 0 ≤ Y * mm := Int.mul_nonneg om9 om9
       have HVI := Lib.hid (fun W (hb : Below w5.heap.size w5 W) => (HV1.out.below hb).big hz0)
       clear hF2 hB6 hm
       by_cases hle : Y * mm ≤ z
       ·obtain ⟨cc, hcc⟩ : ∃ c, cmpA (max (Y * mm) (-(Y * mm))) (max z (-z)) = c := ⟨_, rfl⟩
        have hc0 : cc ≤ 0 := by rw [← hcc]; unfold cmpA; rw [if_neg om9]; split <;> decide
        have C := Lib.hid hcc
        clear hcc ll hym
        go_wp2_with fail
        have HS : Hid (∀ w' : World, Reg (wi.heap.size) (wi) w' → (Reg (wi.heap.size) (wi) w' ∧ w'.cell? ⟨y, 0, none⟩ = some (.bool false) ∧ w'.cell? ⟨y, 1, none⟩ = some (.slice B m cb) ∧ w'.cell? ⟨wo.heap.size + 1 + 1, 0, none⟩ = some (.bool false) ∧ w'.cell? ⟨wo.heap.size + 1 + 1, 1, none⟩ = some (.slice A1 k1 c1))) := (fun w' h => by (have hc := h.cells; have hs := h.some; have hf := h.frozen; refine ⟨h, ?_⟩; (try simp only [World.size_alloc, World.size_setCell, size_drew, size_drewN] at hc hs hf); first | (simp (disch := omega) only [hc, hs, hf, cur_iff]; (try go_simp); done) | (simp (disch := first | omega | (simp; done)) only [hc, hs, hf, cur_iff]; (try go_simp); done) | (simp (maxDischargeDepth := 4) [hc, hs, hf, cur_iff, go_sem]; done) | (go_simp; done) | (simp (maxDischargeDepth := 4) [hc, hs, hf, cur_iff, go_sem]; go_simp))); go_region_held3 (fun w' => Reg (wi.heap.size) (wi) w' ∧ w'.cell? ⟨y, 0, none⟩ = some (.bool false) ∧ w'.cell? ⟨y, 1, none⟩ = some (.slice B m cb) ∧ w'.cell? ⟨wo.heap.size + 1 + 1, 0, none⟩ = some (.bool false) ∧ w'.cell? ⟨wo.heap.size + 1 + 1, 1, none⟩ = some (.slice A1 k1 c1)) (exact HS.out _ (by (repeat first | with_reducible exact Reg.refl _ _ | with_reducible exact (‹Reg _ _ _ ∧ _›).1 | with_reducible refine Reg.drew ?_ | (with_reducible apply Reg.call; rotate_left; with_reducible assumption)))) (first | (go_at_call 89; refine (of_big mm _ om9 om9).mono ?_; rintro e w1 ⟨u1, rfl, V1, hb⟩; have hq1 := hb; (skip); (try simp only [World.size_alloc, World.size_setCell, size_drew, size_drewN] at hk); obtain ⟨hc, hf⟩ := bcell hb; have hs := hb.size; (try simp only [World.size_alloc, World.size_setCell, size_drew, size_drewN] at hs)) | (go_at_call 88; refine (times_big Y mm _ _ _ (HUN.out _ (Reg.out (‹Reg _ _ _ ∧ _›).1 HBI.out om9)) V1 H16.out H17.out).mono ?_; rintro e w2 ⟨u2, rfl, V2, hb⟩; have hq2 := hb; (skip); (try simp only [World.size_alloc, World.size_setCell, size_drew, size_drewN] at hk); obtain ⟨hc, hf⟩ := bcell hb; have hs := hb.size; (try simp only [World.size_alloc, World.size_setCell, size_drew, size_drewN] at hs)) | (go_at_call 133; refine (larger_big (Y * mm) z _ _ _ V2 (HVI.out _ (Reg.out (‹Reg _ _ _ ∧ _›).1 HB6.out om9))).mono ?_; rintro e w3 ⟨rfl, hb⟩; have hq3 := hb; rw [C.out]; (skip); (try simp only [World.size_alloc, World.size_setCell, size_drew, size_drewN] at hk); obtain ⟨hc, hf⟩ := bcell hb; have hs := hb.size; (try simp only [World.size_alloc, World.size_setCell, size_drew, size_drewN] at hs)))
        have hT : Below wi.heap.size wi w3 := ((show Below wi.heap.size wi w1 from ⟨hq1.os, hq1.tape, hq1.output, hq1.size, hq1.block⟩).trans (hq2.mono hq1.size)).trans (hq3.mono (Nat.le_trans hq1.size hq2.size))
        have FT := Lib.hid (HF2.out.call hT om9)
        have BT := Lib.hid (HB6.out.trans (hT.mono hs4))
        go_wp2_with fail
        go_roundw
        case rel => exact ⟨mm, h, (by rfl), rfl, by omega, by omega, by omega, hle, lu, FT.out, BT.out⟩
        case measure => first | (simp [intOf]; done) | (simp [intOf]; omega)
       ·obtain ⟨cc, hcc⟩ : ∃ c, cmpA (max (Y * mm) (-(Y * mm))) (max z (-z)) = c := ⟨_, rfl⟩
        have hc0 : 0 < cc := by rw [← hcc]; unfold cmpA; rw [if_pos om9]; decide
        have C := Lib.hid hcc
        clear hcc lu hym
        go_wp2_with fail
        have HS : Hid (∀ w' : World, Reg (wi.heap.size) (wi) w' → (Reg (wi.heap.size) (wi) w' ∧ w'.cell? ⟨y, 0, none⟩ = some (.bool false) ∧ w'.cell? ⟨y, 1, none⟩ = some (.slice B m cb) ∧ w'.cell? ⟨wo.heap.size + 1 + 1, 0, none⟩ = some (.bool false) ∧ w'.cell? ⟨wo.heap.size + 1 + 1, 1, none⟩ = some (.slice A1 k1 c1))) := (fun w' h => by (have hc := h.cells; have hs := h.some; have hf := h.frozen; refine ⟨h, ?_⟩; (try simp only [World.size_alloc, World.size_setCell, size_drew, size_drewN] at hc hs hf); first | (simp (disch := omega) only [hc, hs, hf, cur_iff]; (try go_simp); done) | (simp (disch := first | omega | (simp; done)) only [hc, hs, hf, cur_iff]; (try go_simp); done) | (simp (maxDischargeDepth := 4) [hc, hs, hf, cur_iff, go_sem]; done) | (go_simp; done) | (simp (maxDischargeDepth := 4) [hc, hs, hf, cur_iff, go_sem]; go_simp))); go_region_held3 (fun w' => Reg (wi.heap.size) (wi) w' ∧ w'.cell? ⟨y, 0, none⟩ = some (.bool false) ∧ w'.cell? ⟨y, 1, none⟩ = some (.slice B m cb) ∧ w'.cell? ⟨wo.heap.size + 1 + 1, 0, none⟩ = some (.bool false) ∧ w'.cell? ⟨wo.heap.size + 1 + 1, 1, none⟩ = some (.slice A1 k1 c1)) (exact HS.out _ (by (repeat first | with_reducible exact Reg.refl _ _ | with_reducible exact (‹Reg _ _ _ ∧ _›).1 | with_reducible refine Reg.drew ?_ | (with_reducible apply Reg.call; rotate_left; with_reducible assumption)))) (first | (go_at_call 89; refine (of_big mm _ om9 om9).mono ?_; rintro e w1 ⟨u1, rfl, V1, hb⟩; have hq1 := hb; (skip); (try simp only [World.size_alloc, World.size_setCell, size_drew, size_drewN] at hk); obtain ⟨hc, hf⟩ := bcell hb; have hs := hb.size; (try simp only [World.size_alloc, World.size_setCell, size_drew, size_drewN] at hs)) | (go_at_call 88; refine (times_big Y mm _ _ _ (HUN.out _ (Reg.out (‹Reg _ _ _ ∧ _›).1 HBI.out om9)) V1 H16.out H17.out).mono ?_; rintro e w2 ⟨u2, rfl, V2, hb⟩; have hq2 := hb; (skip); (try simp only [World.size_alloc, World.size_setCell, size_drew, size_drewN] at hk); obtain ⟨hc, hf⟩ := bcell hb; have hs := hb.size; (try simp only [World.size_alloc, World.size_setCell, size_drew, size_drewN] at hs)) | (go_at_call 133; refine (larger_big (Y * mm) z _ _ _ V2 (HVI.out _ (Reg.out (‹Reg _ _ _ ∧ _›).1 HB6.out om9))).mono ?_; rintro e w3 ⟨rfl, hb⟩; have hq3 := hb; rw [C.out]; (skip); (try simp only [World.size_alloc, World.size_setCell, size_drew, size_drewN] at hk); obtain ⟨hc, hf⟩ := bcell hb; have hs := hb.size; (try simp only [World.size_alloc, World.size_setCell, size_drew, size_drewN] at hs)))
        have hT : Below wi.heap.size wi w3 := ((show Below wi.heap.size wi w1 from ⟨hq1.os, hq1.tape, hq1.output, hq1.size, hq1.block⟩).trans (hq2.mono hq1.size)).trans (hq3.mono (Nat.le_trans hq1.size hq2.size))
        have FT := Lib.hid (HF2.out.call hT om9)
        have BT := Lib.hid (HB6.out.trans (hT.mono hs4))
        go_wp2_with fail
        go_roundw
        case rel => exact ⟨l, mm, rfl, (by rfl), by omega, by omega, by omega, ll, by omega, FT.out, BT.out⟩
        case measure => first | (simp [intOf]; done) | (simp [intOf]; omega)
end
end Go.Proofs.YthggkidiidnaoaaGreat
