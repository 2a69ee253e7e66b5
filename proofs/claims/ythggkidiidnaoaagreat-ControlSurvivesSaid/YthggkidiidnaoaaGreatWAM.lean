import Derived.Test.YthggkidiidnaoaaGreatWAA
import Derived.Test.YthggkidiidnaoaaGreatWAJ
import Derived.Test.YthggkidiidnaoaaGreatWAK
import Derived.Test.YthggkidiidnaoaaGreatWAL
namespace Go.Proofs.YthggkidiidnaoaaGreat
set_option linter.unusedVariables false
set_option linter.unusedSimpArgs false
section
open Go.RowKit Go.Shelf
set_option maxRecDepth 100000 in
set_option maxHeartbeats 16000000 in
theorem rcoils_any (name : ByteArray) (A B C D : Option Addr) (la ca lb cb lc cc ld cd : Nat) (r z nr nz step : Int) (zs : List CoilD) (w : World) (hI : IsT 8 CoilD.cells w A la zs) :
  Calls Tryz.prog 124 #[.agg #[.string name, .slice A la ca, .slice B lb cb, .slice C lc cc, .int .i64 r, .int .i64 z, .int .i64 nr, .int .i64 nz, .int .i64 step, .slice D ld cd]] w (Ret (.int .i64 (eachC coilC 12 zs)) w) := by
 have HI := Lib.hid hI
 have hz := hI.1
 by_cases hm : 12 < la
 ·have HG : Hid (eachC coilC 12 zs = 4) := Lib.hid (by unfold eachC; rw [if_pos om9])
  clear hI hz
  generalize eachC coilC 12 zs = G at *
  go_enter Tryz.func124, Tryz.ntmps124
  go_wp2_with fail
  go_ret
  exact ⟨by rw [HG.out]; rfl, by (repeat first | with_reducible exact Below.refl _ _ | (with_reducible refine Below.alloc ?_ ?_ _; rotate_left; exact om9))⟩
 have hl : la ≤ 1000000000000000 := by omega
 have HG : Hid (eachC coilC 12 zs = eachGo coilC [] zs) := Lib.hid (by unfold eachC; rw [if_neg om9])
 generalize eachC coilC 12 zs = G at *
 clear hI hz
 go_enter Tryz.func124, Tryz.ntmps124
 go_wp2_with fail
 go_loopw [3, 4, 5] (fun i _ _ wr => ∃ j : Nat, j ≤ la ∧ i = .int .i64 j ∧ Hid (eachGo coilC (zs.take j) (zs.drop j) = G) ∧ Below w.heap.size w wr ∧ w.heap.size < wr.heap.size ∧ wr.cell? ⟨w.heap.size, 1, none⟩ = some (.slice A la ca)) (fun i _ _ _ => la - (intOf i).toNat)
 case atStart => exact ⟨0, Nat.zero_le _, rfl, Lib.hid HG.out.symm, by (repeat first | with_reducible exact Below.refl _ _ | (with_reducible refine Below.alloc ?_ ?_ _; rotate_left; exact om9)), by simp, by go_simp⟩
 case round =>
  obtain ⟨j, hj, rfl, hG, hB, hq, q1⟩ := hrel
  by_cases hlt : j < la
  ·obtain ⟨hzl, hcl⟩ := HI.out.below hB
   obtain ⟨b, o, rfl, hb0, hcl⟩ := hcl om9
   obtain ⟨x, hx⟩ : ∃ x, zs[j]? = some x := ⟨_, List.getElem?_eq_getElem om9⟩
   have HS := Lib.hid (hG.out.symm.trans (eachGo_step coilC hx))
   have x0 : wr.cell? ⟨b, o + j * 8, none⟩ = some (.string x.name) := by have h := hcl j x hx 0 _ rfl; simpa using h
   have x1 : wr.cell? ⟨b, o + j * 8 + 1, none⟩ = some (.int .i64 x.r) := by have h := hcl j x hx 1 _ rfl; simpa using h
   have x2 : wr.cell? ⟨b, o + j * 8 + 2, none⟩ = some (.int .i64 x.z) := by have h := hcl j x hx 2 _ rfl; simpa using h
   have x3 : wr.cell? ⟨b, o + j * 8 + 3, none⟩ = some (.int .i64 x.turns) := by have h := hcl j x hx 3 _ rfl; simpa using h
   have x4 : wr.cell? ⟨b, o + j * 8 + 4, none⟩ = some (.int .i64 x.cur) := by have h := hcl j x hx 4 _ rfl; simpa using h
   have x5 : wr.cell? ⟨b, o + j * 8 + 5, none⟩ = some (.int .i64 x.step) := by have h := hcl j x hx 5 _ rfl; simpa using h
   have x6 : wr.cell? ⟨b, o + j * 8 + 6, none⟩ = some (.int .i64 x.heat) := by have h := hcl j x hx 6 _ rfl; simpa using h
   have x7 : wr.cell? ⟨b, o + j * 8 + 7, none⟩ = some (.int .i64 x.cool) := by have h := hcl j x hx 7 _ rfl; simpa using h
   have hsz := hB.size
   clear hcl hx hzl hG
   have jc : (0 : Int) ≤ j := by omega
   have jn : ((j : Int)).toNat = j := by omega
   cases hnm : nameB x.name.data.toList
   ·have HF : Hid ((1 : Int) = G) := Lib.hid (by rw [HS.out]; unfold coilC; rw [hnm]; simp)
    clear HS
    go_wp2_with (go_at_call 123; refine (rname_any _ _).mono ?_; rintro e w1 ⟨rfl, rfl⟩)
    go_ret
    exact ⟨by rw [← HF.out]; rfl, by (repeat first | with_reducible assumption | (with_reducible refine Below.alloc ?_ ?_ _; rotate_left; exact om9))⟩
   ·have HK0 : Hid (coilC x (zs.take j) = if (zs.take j).any (fun y => decide (y.name = x.name)) = true then 6 else rng (nearB x.r x.z 60 && (wthn x.turns 1 100 && (wthn x.cur 1 1000000 && (wthn x.step 1 1000000 && (wthn x.heat 1 1000000000000 && wthn x.cool 0 1000000000)))))) := Lib.hid (by unfold coilC; rw [hnm]; rfl)
    go_wp2_with (go_at_call 123; refine (rname_any _ _).mono ?_; rintro e w1 ⟨rfl, rfl⟩)
    clear hnm x0
    obtain ⟨wo, hwo⟩ : ∃ wo, wo = wr := ⟨_, rfl⟩
    subst hwo
    go_loopw [5] (fun k wr => ∃ t : Nat, t ≤ j ∧ k = .int .i64 t ∧ Hid (∀ y ∈ zs.take t, y.name ≠ x.name) ∧ Below w.heap.size w wr ∧ wo.heap.size < wr.heap.size ∧ wr.cell? ⟨w.heap.size, 1, none⟩ = some (.slice (some ⟨b, o, none⟩) la ca) ∧ wr.cell? ⟨wo.heap.size, 0, none⟩ = some (.string x.name) ∧ wr.cell? ⟨wo.heap.size, 1, none⟩ = some (.int .i64 x.r) ∧ wr.cell? ⟨wo.heap.size, 2, none⟩ = some (.int .i64 x.z) ∧ wr.cell? ⟨wo.heap.size, 3, none⟩ = some (.int .i64 x.turns) ∧ wr.cell? ⟨wo.heap.size, 4, none⟩ = some (.int .i64 x.cur) ∧ wr.cell? ⟨wo.heap.size, 5, none⟩ = some (.int .i64 x.step) ∧ wr.cell? ⟨wo.heap.size, 6, none⟩ = some (.int .i64 x.heat) ∧ wr.cell? ⟨wo.heap.size, 7, none⟩ = some (.int .i64 x.cool)) (fun k _ => j - (intOf k).toNat)
    case atStart => exact ⟨0, Nat.zero_le _, rfl, Lib.hid (fun y hy => by simp at hy), by (repeat first | with_reducible assumption | (with_reducible refine Below.alloc ?_ ?_ _; rotate_left; exact om9)), by simp, by go_simp, by go_simp, by go_simp, by go_simp, by go_simp, by go_simp, by go_simp, by go_simp, by go_simp⟩
    case round =>
     obtain ⟨t, ht, rfl, hU, hBx, hwx, q2, c0, c1, c2, c3, c4, c5, c6, c7⟩ := hrel
     have hqx : w.heap.size < wr.heap.size := by omega
     by_cases htj : t < j
     ·obtain ⟨y, hy⟩ : ∃ y, zs[t]? = some y := ⟨_, List.getElem?_eq_getElem (by rw [HI.out.1]; omega)⟩
      have y0 : wr.cell? ⟨b, o + t * 8, none⟩ = some (.string y.name) := by have h := (HI.out.below hBx).get hy (i := 0) rfl; simpa using h
      have hyt : zs.take (t + 1) = zs.take t ++ [y] := by
       obtain ⟨hk, rfl⟩ := List.getElem?_eq_some_iff.1 hy
       exact List.take_succ_eq_append_getElem hk
      have hym : y ∈ zs.take j := List.mem_take_iff_getElem.2 ⟨t, by rw [HI.out.1]; omega, by
       obtain ⟨hk, rfl⟩ := List.getElem?_eq_some_iff.1 hy
       rfl⟩
      have HYT := Lib.hid hyt
      clear hy hyt
      have hsb := str_beq y.name x.name
      have tc : (0 : Int) ≤ t := by omega
      have tn : ((t : Int)).toNat = t := by omega
      by_cases e : y.name = x.name
      ·have HF : Hid ((6 : Int) = G) := Lib.hid (by
        rw [HS.out, HK0.out, if_pos (List.any_eq_true.2 ⟨y, hym, decide_eq_true e⟩)]; rfl)
       rw [decide_eq_true e] at hsb
       clear e HS HK0 HYT hym
       obtain ⟨yn, hyn⟩ : ∃ yn, y.name = yn := ⟨_, rfl⟩
       rw [hyn] at y0 hsb
       obtain ⟨xn, hxn⟩ : ∃ xn, x.name = xn := ⟨_, rfl⟩
       rw [hxn] at c0 hsb
       clear hyn hxn
       go_wp2_with fail
       go_quiet (fail)
       go_wp2_with fail
       go_ret
       exact ⟨by rw [← HF.out]; rfl, by (repeat first | with_reducible assumption | with_reducible refine Below_drewN ?_ _)⟩
      ·have HU2 : Hid (∀ u ∈ zs.take (t + 1), u.name ≠ x.name) := Lib.hid (by
        rw [HYT.out]; intro u hu
        rcases List.mem_append.1 hu with hu | hu
        ·exact hU.out u hu
        ·obtain rfl : u = y := by simpa using hu
         exact e)
       rw [decide_eq_false e] at hsb
       clear e HYT hym
       go_wp2_with fail
       go_quiet (fail)
       go_wp2_with fail
       go_roundw
       case rel => exact ⟨t + 1, by omega, by go_num, HU2, by (repeat first | with_reducible assumption | with_reducible refine Below_drewN ?_ _), by simpa using hwx, by go_simp, by go_simp, by go_simp, by go_simp, by go_simp, by go_simp, by go_simp, by go_simp, by go_simp⟩
       case measure => simp [intOf]; omega
     ·obtain rfl : t = j := by omega
      have HK : Hid (coilC x (zs.take t) = rng (nearB x.r x.z 60 && (wthn x.turns 1 100 && (wthn x.cur 1 1000000 && (wthn x.step 1 1000000 && (wthn x.heat 1 1000000000000 && wthn x.cool 0 1000000000)))))) := Lib.hid (by
       rw [HK0.out, if_neg (by
        intro h
        obtain ⟨u, hu, hd⟩ := List.any_eq_true.1 h
        exact hU.out u hu (of_decide_eq_true hd))])
      clear HK0
      cases p1 : nearB x.r x.z 60
      ·have HF : Hid ((7 : Int) = G) := Lib.hid (by rw [HS.out, HK.out, p1]; simp [rng])
       clear HS HK
       go_wp2_with (go_at_call 127; refine (rplaced_any _ _ _).mono ?_; rintro e w1 ⟨rfl, rfl⟩)
       go_ret
       exact ⟨by rw [← HF.out]; rfl, by (repeat with_reducible assumption)⟩
      cases p2 : wthn x.turns 1 100
      ·have HF : Hid ((7 : Int) = G) := Lib.hid (by rw [HS.out, HK.out, p1, p2]; simp [rng])
       clear HS HK
       go_wp2_with (first | (go_at_call 44; refine (rwithin2_any _ _ _ _).mono ?_; rintro e w1 ⟨rfl, rfl⟩) | (go_at_call 127; refine (rplaced_any _ _ _).mono ?_; rintro e w1 ⟨rfl, rfl⟩))
       go_ret
       exact ⟨by rw [← HF.out]; rfl, by (repeat with_reducible assumption)⟩
      cases p3 : wthn x.cur 1 1000000
      ·have HF : Hid ((7 : Int) = G) := Lib.hid (by rw [HS.out, HK.out, p1, p2, p3]; simp [rng])
       clear HS HK
       go_wp2_with (first | (go_at_call 44; refine (rwithin2_any _ _ _ _).mono ?_; rintro e w1 ⟨rfl, rfl⟩) | (go_at_call 127; refine (rplaced_any _ _ _).mono ?_; rintro e w1 ⟨rfl, rfl⟩))
       go_ret
       exact ⟨by rw [← HF.out]; rfl, by (repeat with_reducible assumption)⟩
      cases p4 : wthn x.step 1 1000000
      ·have HF : Hid ((7 : Int) = G) := Lib.hid (by rw [HS.out, HK.out, p1, p2, p3, p4]; simp [rng])
       clear HS HK
       go_wp2_with (first | (go_at_call 44; refine (rwithin2_any _ _ _ _).mono ?_; rintro e w1 ⟨rfl, rfl⟩) | (go_at_call 127; refine (rplaced_any _ _ _).mono ?_; rintro e w1 ⟨rfl, rfl⟩))
       go_ret
       exact ⟨by rw [← HF.out]; rfl, by (repeat with_reducible assumption)⟩
      cases p5 : wthn x.heat 1 1000000000000
      ·have HF : Hid ((7 : Int) = G) := Lib.hid (by rw [HS.out, HK.out, p1, p2, p3, p4, p5]; simp [rng])
       clear HS HK
       go_wp2_with (first | (go_at_call 44; refine (rwithin2_any _ _ _ _).mono ?_; rintro e w1 ⟨rfl, rfl⟩) | (go_at_call 127; refine (rplaced_any _ _ _).mono ?_; rintro e w1 ⟨rfl, rfl⟩))
       go_ret
       exact ⟨by rw [← HF.out]; rfl, by (repeat with_reducible assumption)⟩
      cases p6 : wthn x.cool 0 1000000000
      ·have HF : Hid ((7 : Int) = G) := Lib.hid (by rw [HS.out, HK.out, p1, p2, p3, p4, p5, p6]; simp [rng])
       clear HS HK
       go_wp2_with (first | (go_at_call 44; refine (rwithin2_any _ _ _ _).mono ?_; rintro e w1 ⟨rfl, rfl⟩) | (go_at_call 127; refine (rplaced_any _ _ _).mono ?_; rintro e w1 ⟨rfl, rfl⟩))
       go_ret
       exact ⟨by rw [← HF.out]; rfl, by (repeat with_reducible assumption)⟩
      have HN : Hid (eachGo coilC (zs.take (t + 1)) (zs.drop (t + 1)) = G) := Lib.hid (by rw [HS.out, HK.out, p1, p2, p3, p4, p5, p6]; simp [rng])
      clear HS HK
      go_wp2_with (first | (go_at_call 44; refine (rwithin2_any _ _ _ _).mono ?_; rintro e w1 ⟨rfl, rfl⟩) | (go_at_call 127; refine (rplaced_any _ _ _).mono ?_; rintro e w1 ⟨rfl, rfl⟩))
      go_roundw
      case rel => exact ⟨t + 1, by omega, by go_num, HN, by (repeat with_reducible assumption), hqx, by go_simp⟩
      case measure => simp [intOf]; omega
  ·have HN : Hid ((0 : Int) = G) := Lib.hid (by rw [← hG.out, List.drop_of_length_le (by rw [HI.out.1]; omega)]; rfl)
   go_wp2
   go_ret
   exact ⟨by rw [← HN.out]; rfl, by (repeat with_reducible assumption)⟩
end
section
open Go.RowKit Go.Shelf
set_option maxRecDepth 100000 in
set_option maxHeartbeats 16000000 in
theorem rsensors_any (name : ByteArray) (A B C D : Option Addr) (la ca lb cb lc cc ld cd : Nat) (r z nr nz step : Int) (zs : List SensorD) (w : World) (hI : IsT 5 SensorD.cells w D ld zs) :
  Calls Tryz.prog 128 #[.agg #[.string name, .slice A la ca, .slice B lb cb, .slice C lc cc, .int .i64 r, .int .i64 z, .int .i64 nr, .int .i64 nz, .int .i64 step, .slice D ld cd]] w (Ret (.int .i64 (eachC sensorC 24 zs)) w) := by
 have HI := Lib.hid hI
 have hz := hI.1
 by_cases hm : 24 < ld
 ·have HG : Hid (eachC sensorC 24 zs = 4) := Lib.hid (by unfold eachC; rw [if_pos om9])
  clear hI hz
  generalize eachC sensorC 24 zs = G at *
  go_enter Tryz.func128, Tryz.ntmps128
  go_wp2_with fail
  go_ret
  exact ⟨by rw [HG.out]; rfl, by (repeat first | with_reducible exact Below.refl _ _ | (with_reducible refine Below.alloc ?_ ?_ _; rotate_left; exact om9))⟩
 have hl : ld ≤ 1000000000000000 := by omega
 have HG : Hid (eachC sensorC 24 zs = eachGo sensorC [] zs) := Lib.hid (by unfold eachC; rw [if_neg om9])
 generalize eachC sensorC 24 zs = G at *
 clear hI hz
 go_enter Tryz.func128, Tryz.ntmps128
 go_wp2_with fail
 go_loopw [3, 4, 5] (fun i _ _ wr => ∃ j : Nat, j ≤ ld ∧ i = .int .i64 j ∧ Hid (eachGo sensorC (zs.take j) (zs.drop j) = G) ∧ Below w.heap.size w wr ∧ w.heap.size < wr.heap.size ∧ wr.cell? ⟨w.heap.size, 9, none⟩ = some (.slice D ld cd)) (fun i _ _ _ => ld - (intOf i).toNat)
 case atStart => exact ⟨0, Nat.zero_le _, rfl, Lib.hid HG.out.symm, by (repeat first | with_reducible exact Below.refl _ _ | (with_reducible refine Below.alloc ?_ ?_ _; rotate_left; exact om9)), by simp, by go_simp⟩
 case round =>
  obtain ⟨j, hj, rfl, hG, hB, hq, q1⟩ := hrel
  by_cases hlt : j < ld
  ·obtain ⟨hzl, hcl⟩ := HI.out.below hB
   obtain ⟨b, o, rfl, hb0, hcl⟩ := hcl om9
   obtain ⟨x, hx⟩ : ∃ x, zs[j]? = some x := ⟨_, List.getElem?_eq_getElem om9⟩
   have HS := Lib.hid (hG.out.symm.trans (eachGo_step sensorC hx))
   have x0 : wr.cell? ⟨b, o + j * 5, none⟩ = some (.string x.name) := by have h := hcl j x hx 0 _ rfl; simpa using h
   have x1 : wr.cell? ⟨b, o + j * 5 + 1, none⟩ = some (.int .i64 x.kind) := by have h := hcl j x hx 1 _ rfl; simpa using h
   have x2 : wr.cell? ⟨b, o + j * 5 + 2, none⟩ = some (.int .i64 x.r) := by have h := hcl j x hx 2 _ rfl; simpa using h
   have x3 : wr.cell? ⟨b, o + j * 5 + 3, none⟩ = some (.int .i64 x.z) := by have h := hcl j x hx 3 _ rfl; simpa using h
   have x4 : wr.cell? ⟨b, o + j * 5 + 4, none⟩ = some (.int .i64 x.error) := by have h := hcl j x hx 4 _ rfl; simpa using h
   have hsz := hB.size
   clear hcl hx hzl hG
   have jc : (0 : Int) ≤ j := by omega
   have jn : ((j : Int)).toNat = j := by omega
   cases hnm : nameB x.name.data.toList
   ·have HF : Hid ((1 : Int) = G) := Lib.hid (by rw [HS.out]; unfold sensorC; rw [hnm]; simp)
    clear HS
    go_wp2_with (go_at_call 123; refine (rname_any _ _).mono ?_; rintro e w1 ⟨rfl, rfl⟩)
    go_ret
    exact ⟨by rw [← HF.out]; rfl, by (repeat first | with_reducible assumption | (with_reducible refine Below.alloc ?_ ?_ _; rotate_left; exact om9))⟩
   ·have HK0 : Hid (sensorC x (zs.take j) = if (zs.take j).any (fun y => decide (y.name = x.name)) = true then 6 else rng (wthn x.kind 1 3 && (nearB x.r x.z 60 && wthn x.error 0 1000000000))) := Lib.hid (by unfold sensorC; rw [hnm]; rfl)
    go_wp2_with (go_at_call 123; refine (rname_any _ _).mono ?_; rintro e w1 ⟨rfl, rfl⟩)
    clear hnm x0
    obtain ⟨wo, hwo⟩ : ∃ wo, wo = wr := ⟨_, rfl⟩
    subst hwo
    go_loopw [5] (fun k wr => ∃ t : Nat, t ≤ j ∧ k = .int .i64 t ∧ Hid (∀ y ∈ zs.take t, y.name ≠ x.name) ∧ Below w.heap.size w wr ∧ wo.heap.size < wr.heap.size ∧ wr.cell? ⟨w.heap.size, 9, none⟩ = some (.slice (some ⟨b, o, none⟩) ld cd) ∧ wr.cell? ⟨wo.heap.size, 0, none⟩ = some (.string x.name) ∧ wr.cell? ⟨wo.heap.size, 1, none⟩ = some (.int .i64 x.kind) ∧ wr.cell? ⟨wo.heap.size, 2, none⟩ = some (.int .i64 x.r) ∧ wr.cell? ⟨wo.heap.size, 3, none⟩ = some (.int .i64 x.z) ∧ wr.cell? ⟨wo.heap.size, 4, none⟩ = some (.int .i64 x.error)) (fun k _ => j - (intOf k).toNat)
    case atStart => exact ⟨0, Nat.zero_le _, rfl, Lib.hid (fun y hy => by simp at hy), by (repeat first | with_reducible assumption | (with_reducible refine Below.alloc ?_ ?_ _; rotate_left; exact om9)), by simp, by go_simp, by go_simp, by go_simp, by go_simp, by go_simp, by go_simp⟩
    case round =>
     obtain ⟨t, ht, rfl, hU, hBx, hwx, q2, c0, c1, c2, c3, c4⟩ := hrel
     have hqx : w.heap.size < wr.heap.size := by omega
     by_cases htj : t < j
     ·obtain ⟨y, hy⟩ : ∃ y, zs[t]? = some y := ⟨_, List.getElem?_eq_getElem (by rw [HI.out.1]; omega)⟩
      have y0 : wr.cell? ⟨b, o + t * 5, none⟩ = some (.string y.name) := by have h := (HI.out.below hBx).get hy (i := 0) rfl; simpa using h
      have hyt : zs.take (t + 1) = zs.take t ++ [y] := by
       obtain ⟨hk, rfl⟩ := List.getElem?_eq_some_iff.1 hy
       exact List.take_succ_eq_append_getElem hk
      have hym : y ∈ zs.take j := List.mem_take_iff_getElem.2 ⟨t, by rw [HI.out.1]; omega, by
       obtain ⟨hk, rfl⟩ := List.getElem?_eq_some_iff.1 hy
       rfl⟩
      have HYT := Lib.hid hyt
      clear hy hyt
      have hsb := str_beq y.name x.name
      have tc : (0 : Int) ≤ t := by omega
      have tn : ((t : Int)).toNat = t := by omega
      by_cases e : y.name = x.name
      ·have HF : Hid ((6 : Int) = G) := Lib.hid (by
        rw [HS.out, HK0.out, if_pos (List.any_eq_true.2 ⟨y, hym, decide_eq_true e⟩)]; rfl)
       rw [decide_eq_true e] at hsb
       clear e HS HK0 HYT hym
       obtain ⟨yn, hyn⟩ : ∃ yn, y.name = yn := ⟨_, rfl⟩
       rw [hyn] at y0 hsb
       obtain ⟨xn, hxn⟩ : ∃ xn, x.name = xn := ⟨_, rfl⟩
       rw [hxn] at c0 hsb
       clear hyn hxn
       go_wp2_with fail
       go_quiet (fail)
       go_wp2_with fail
       go_ret
       exact ⟨by rw [← HF.out]; rfl, by (repeat first | with_reducible assumption | with_reducible refine Below_drewN ?_ _)⟩
      ·have HU2 : Hid (∀ u ∈ zs.take (t + 1), u.name ≠ x.name) := Lib.hid (by
        rw [HYT.out]; intro u hu
        rcases List.mem_append.1 hu with hu | hu
        ·exact hU.out u hu
        ·obtain rfl : u = y := by simpa using hu
         exact e)
       rw [decide_eq_false e] at hsb
       clear e HYT hym
       go_wp2_with fail
       go_quiet (fail)
       go_wp2_with fail
       go_roundw
       case rel => exact ⟨t + 1, by omega, by go_num, HU2, by (repeat first | with_reducible assumption | with_reducible refine Below_drewN ?_ _), by simpa using hwx, by go_simp, by go_simp, by go_simp, by go_simp, by go_simp, by go_simp⟩
       case measure => simp [intOf]; omega
     ·obtain rfl : t = j := by omega
      have HK : Hid (sensorC x (zs.take t) = rng (wthn x.kind 1 3 && (nearB x.r x.z 60 && wthn x.error 0 1000000000))) := Lib.hid (by
       rw [HK0.out, if_neg (by
        intro h
        obtain ⟨u, hu, hd⟩ := List.any_eq_true.1 h
        exact hU.out u hu (of_decide_eq_true hd))])
      clear HK0
      cases p1 : wthn x.kind 1 3
      ·have HF : Hid ((7 : Int) = G) := Lib.hid (by rw [HS.out, HK.out, p1]; simp [rng])
       clear HS HK
       go_wp2_with (go_at_call 44; refine (rwithin2_any _ _ _ _).mono ?_; rintro e w1 ⟨rfl, rfl⟩)
       go_ret
       exact ⟨by rw [← HF.out]; rfl, by (repeat with_reducible assumption)⟩
      cases p2 : nearB x.r x.z 60
      ·have HF : Hid ((7 : Int) = G) := Lib.hid (by rw [HS.out, HK.out, p1, p2]; simp [rng])
       clear HS HK
       go_wp2_with (first | (go_at_call 44; refine (rwithin2_any _ _ _ _).mono ?_; rintro e w1 ⟨rfl, rfl⟩) | (go_at_call 127; refine (rplaced_any _ _ _).mono ?_; rintro e w1 ⟨rfl, rfl⟩))
       go_ret
       exact ⟨by rw [← HF.out]; rfl, by (repeat with_reducible assumption)⟩
      cases p3 : wthn x.error 0 1000000000
      ·have HF : Hid ((7 : Int) = G) := Lib.hid (by rw [HS.out, HK.out, p1, p2, p3]; simp [rng])
       clear HS HK
       go_wp2_with (first | (go_at_call 44; refine (rwithin2_any _ _ _ _).mono ?_; rintro e w1 ⟨rfl, rfl⟩) | (go_at_call 127; refine (rplaced_any _ _ _).mono ?_; rintro e w1 ⟨rfl, rfl⟩))
       go_ret
       exact ⟨by rw [← HF.out]; rfl, by (repeat with_reducible assumption)⟩
      have HN : Hid (eachGo sensorC (zs.take (t + 1)) (zs.drop (t + 1)) = G) := Lib.hid (by rw [HS.out, HK.out, p1, p2, p3]; simp [rng])
      clear HS HK
      go_wp2_with (first | (go_at_call 44; refine (rwithin2_any _ _ _ _).mono ?_; rintro e w1 ⟨rfl, rfl⟩) | (go_at_call 127; refine (rplaced_any _ _ _).mono ?_; rintro e w1 ⟨rfl, rfl⟩))
      go_roundw
      case rel => exact ⟨t + 1, by omega, by go_num, HN, by (repeat with_reducible assumption), hqx, by go_simp⟩
      case measure => simp [intOf]; omega
  ·have HN : Hid ((0 : Int) = G) := Lib.hid (by rw [← hG.out, List.drop_of_length_le (by rw [HI.out.1]; omega)]; rfl)
   go_wp2
   go_ret
   exact ⟨by rw [← HN.out]; rfl, by (repeat with_reducible assumption)⟩
end
section
open Go.RowKit Go.Shelf
set_option maxRecDepth 100000 in
set_option maxHeartbeats 16000000 in
theorem rshells_any (name : ByteArray) (A B C D : Option Addr) (la ca lb cb lc cc ld cd : Nat) (r z nr nz step : Int) (zs : List ShellD) (w : World) (hI : IsT 4 ShellD.cells w B lb zs) :
  Calls Tryz.prog 125 #[.agg #[.string name, .slice A la ca, .slice B lb cb, .slice C lc cc, .int .i64 r, .int .i64 z, .int .i64 nr, .int .i64 nz, .int .i64 step, .slice D ld cd]] w (Ret (.int .i64 (eachC shellC 16 zs)) w) := by
 have HI := Lib.hid hI
 have hz := hI.1
 by_cases hm : 16 < lb
 ·have HG : Hid (eachC shellC 16 zs = 4) := Lib.hid (by unfold eachC; rw [if_pos om9])
  clear hI hz
  generalize eachC shellC 16 zs = G at *
  go_enter Tryz.func125, Tryz.ntmps125
  go_wp2_with fail
  go_ret
  exact ⟨by rw [HG.out]; rfl, by (repeat first | with_reducible exact Below.refl _ _ | (with_reducible refine Below.alloc ?_ ?_ _; rotate_left; exact om9))⟩
 have hl : lb ≤ 1000000000000000 := by omega
 have HG : Hid (eachC shellC 16 zs = eachGo shellC [] zs) := Lib.hid (by unfold eachC; rw [if_neg om9])
 generalize eachC shellC 16 zs = G at *
 clear hI hz
 go_enter Tryz.func125, Tryz.ntmps125
 go_wp2_with fail
 go_loopw [3, 4] (fun i _ wr => ∃ j : Nat, j ≤ lb ∧ i = .int .i64 j ∧ Hid (eachGo shellC (zs.take j) (zs.drop j) = G) ∧ Below w.heap.size w wr ∧ w.heap.size < wr.heap.size ∧ wr.cell? ⟨w.heap.size, 2, none⟩ = some (.slice B lb cb)) (fun i _ _ => lb - (intOf i).toNat)
 case atStart => exact ⟨0, Nat.zero_le _, rfl, Lib.hid HG.out.symm, by (repeat first | with_reducible exact Below.refl _ _ | (with_reducible refine Below.alloc ?_ ?_ _; rotate_left; exact om9)), by simp, by go_simp⟩
 case round =>
  obtain ⟨j, hj, rfl, hG, hB, hq, q1⟩ := hrel
  by_cases hlt : j < lb
  ·obtain ⟨hzl, hcl⟩ := HI.out.below hB
   obtain ⟨b, o, rfl, hb0, hcl⟩ := hcl om9
   obtain ⟨x, hx⟩ : ∃ x, zs[j]? = some x := ⟨_, List.getElem?_eq_getElem om9⟩
   have HS := Lib.hid (hG.out.symm.trans (eachGo_step shellC hx))
   have x0 : wr.cell? ⟨b, o + j * 4, none⟩ = some (.int .i64 x.r) := by have h := hcl j x hx 0 _ rfl; simpa using h
   have x1 : wr.cell? ⟨b, o + j * 4 + 1, none⟩ = some (.int .i64 x.z) := by have h := hcl j x hx 1 _ rfl; simpa using h
   have x2 : wr.cell? ⟨b, o + j * 4 + 2, none⟩ = some (.int .i64 x.self) := by have h := hcl j x hx 2 _ rfl; simpa using h
   have x3 : wr.cell? ⟨b, o + j * 4 + 3, none⟩ = some (.int .i64 x.loss) := by have h := hcl j x hx 3 _ rfl; simpa using h
   have hsz := hB.size
   clear hcl hx hzl hG
   have jc : (0 : Int) ≤ j := by omega
   have jn : ((j : Int)).toNat = j := by omega
   have HK : Hid (shellC x (zs.take j) = rng (nearB x.r x.z 60 && (wthn x.self 1 1000000000 && wthn x.loss 1 1000))) := Lib.hid rfl
   cases p1 : nearB x.r x.z 60
   ·have HF : Hid ((7 : Int) = G) := Lib.hid (by rw [HS.out, HK.out, p1]; simp [rng])
    clear HS HK
    go_wp2_with (go_at_call 127; refine (rplaced_any _ _ _).mono ?_; rintro e w1 ⟨rfl, rfl⟩)
    go_ret
    exact ⟨by rw [← HF.out]; rfl, by (repeat first | with_reducible assumption | (with_reducible refine Below.alloc ?_ ?_ _; rotate_left; exact om9))⟩
   cases p2 : wthn x.self 1 1000000000
   ·have HF : Hid ((7 : Int) = G) := Lib.hid (by rw [HS.out, HK.out, p1, p2]; simp [rng])
    clear HS HK
    go_wp2_with (first | (go_at_call 44; refine (rwithin2_any _ _ _ _).mono ?_; rintro e w1 ⟨rfl, rfl⟩) | (go_at_call 127; refine (rplaced_any _ _ _).mono ?_; rintro e w1 ⟨rfl, rfl⟩))
    go_ret
    exact ⟨by rw [← HF.out]; rfl, by (repeat first | with_reducible assumption | (with_reducible refine Below.alloc ?_ ?_ _; rotate_left; exact om9))⟩
   cases p3 : wthn x.loss 1 1000
   ·have HF : Hid ((7 : Int) = G) := Lib.hid (by rw [HS.out, HK.out, p1, p2, p3]; simp [rng])
    clear HS HK
    go_wp2_with (first | (go_at_call 44; refine (rwithin2_any _ _ _ _).mono ?_; rintro e w1 ⟨rfl, rfl⟩) | (go_at_call 127; refine (rplaced_any _ _ _).mono ?_; rintro e w1 ⟨rfl, rfl⟩))
    go_ret
    exact ⟨by rw [← HF.out]; rfl, by (repeat first | with_reducible assumption | (with_reducible refine Below.alloc ?_ ?_ _; rotate_left; exact om9))⟩
   have HN : Hid (eachGo shellC (zs.take (j + 1)) (zs.drop (j + 1)) = G) := Lib.hid (by rw [HS.out, HK.out, p1, p2, p3]; simp [rng])
   clear HS HK
   go_wp2_with (first | (go_at_call 44; refine (rwithin2_any _ _ _ _).mono ?_; rintro e w1 ⟨rfl, rfl⟩) | (go_at_call 127; refine (rplaced_any _ _ _).mono ?_; rintro e w1 ⟨rfl, rfl⟩))
   go_roundw
   case rel => exact ⟨j + 1, by omega, by go_num, HN, by (repeat first | with_reducible assumption | (with_reducible refine Below.alloc ?_ ?_ _; rotate_left; exact om9)), by simp; omega, by go_simp⟩
   case measure => simp [intOf]; omega
  ·have HN : Hid ((0 : Int) = G) := Lib.hid (by rw [← hG.out, List.drop_of_length_le (by rw [HI.out.1]; omega)]; rfl)
   go_wp2
   go_ret
   exact ⟨by rw [← HN.out]; rfl, by (repeat with_reducible assumption)⟩
end
section
open Go.RowKit Go.Shelf
theorem rplaced_q (r z : Int) (w : World) (n : Nat) :
  Calls Tryz.prog 127 #[.int .i64 r, .int .i64 z] (w.drewN n) fun e w' => e = .returned (.bool (nearB r z 60)) ∧ ∃ m, w' = w.drewN m :=
 (rplaced_any r z _).mono fun _ _ ⟨he, hw⟩ => ⟨he, n, hw.symm⟩
set_option maxRecDepth 100000 in
set_option maxHeartbeats 16000000 in
theorem rlimits_any (name : ByteArray) (A B C D : Option Addr) (la ca lb cb lc cc ld cd : Nat) (r z nr nz step : Int) (zs : List PointD) (w : World) (hI : IsT 2 PointD.cells w C lc zs) :
  Calls Tryz.prog 126 #[.agg #[.string name, .slice A la ca, .slice B lb cb, .slice C lc cc, .int .i64 r, .int .i64 z, .int .i64 nr, .int .i64 nz, .int .i64 step, .slice D ld cd]] w (Ret (.int .i64 (limitsC zs)) w) := by
 have HI := Lib.hid hI
 have hz := hI.1
 by_cases h0 : lc = 0
 ·have HG : Hid (limitsC zs = 8) := Lib.hid (by unfold limitsC; rw [if_pos om9])
  clear hI hz
  generalize limitsC zs = G at *
  subst h0
  go_enter Tryz.func126, Tryz.ntmps126
  go_wp2_with fail
  go_ret
  exact ⟨by rw [HG.out]; rfl, by (repeat first | with_reducible exact Below.refl _ _ | (with_reducible refine Below.alloc ?_ ?_ _; rotate_left; exact om9))⟩
 have hz0 : ((lc : Int) == 0) = false := by rw [beq_eq_false_iff_ne]; omega
 by_cases hm : 16 < lc
 ·have HG : Hid (limitsC zs = 4) := Lib.hid (by unfold limitsC eachC; rw [if_neg om9, if_pos om9])
  clear hI hz h0
  generalize limitsC zs = G at *
  go_enter Tryz.func126, Tryz.ntmps126
  go_wp2_with fail
  go_ret
  exact ⟨by rw [HG.out]; rfl, by (repeat first | with_reducible exact Below.refl _ _ | (with_reducible refine Below.alloc ?_ ?_ _; rotate_left; exact om9))⟩
 have hl : lc ≤ 1000000000000000 := by omega
 have HG : Hid (limitsC zs = eachGo limitC [] zs) := Lib.hid (by unfold limitsC eachC; rw [if_neg om9, if_neg om9])
 generalize limitsC zs = G at *
 clear hI hz h0
 go_enter Tryz.func126, Tryz.ntmps126
 go_wp2_with fail
 go_loopw [3, 4] (fun i _ wr => ∃ j : Nat, j ≤ lc ∧ i = .int .i64 j ∧ Hid (eachGo limitC (zs.take j) (zs.drop j) = G) ∧ Below w.heap.size w wr ∧ w.heap.size < wr.heap.size ∧ wr.cell? ⟨w.heap.size, 3, none⟩ = some (.slice C lc cc)) (fun i _ _ => lc - (intOf i).toNat)
 case atStart => exact ⟨0, Nat.zero_le _, rfl, Lib.hid HG.out.symm, by (repeat first | with_reducible exact Below.refl _ _ | (with_reducible refine Below.alloc ?_ ?_ _; rotate_left; exact om9)), by simp, by go_simp⟩
 case round =>
  obtain ⟨j, hj, rfl, hG, hB, hq, q1⟩ := hrel
  by_cases hlt : j < lc
  ·obtain ⟨hzl, hcl⟩ := HI.out.below hB
   obtain ⟨b, o, rfl, hb0, hcl⟩ := hcl om9
   obtain ⟨x, hx⟩ : ∃ x, zs[j]? = some x := ⟨_, List.getElem?_eq_getElem om9⟩
   have HS := Lib.hid (hG.out.symm.trans (eachGo_step limitC hx))
   have x0 : wr.cell? ⟨b, o + j * 2, none⟩ = some (.int .i64 x.r) := by have h := hcl j x hx 0 _ rfl; simpa using h
   have x1 : wr.cell? ⟨b, o + j * 2 + 1, none⟩ = some (.int .i64 x.z) := by have h := hcl j x hx 1 _ rfl; simpa using h
   have HX := Lib.hid hx
   have hsz := hB.size
   clear hcl hx hzl hG
   have jc : (0 : Int) ≤ j := by omega
   have jn : ((j : Int)).toNat = j := by omega
   cases hp : nearB x.r x.z 60
   ·have HF : Hid ((7 : Int) = G) := Lib.hid (by rw [HS.out]; unfold limitC; rw [hp]; simp)
    clear HS
    go_wp2_with fail
    go_quiet ((go_at_call 127; exact rplaced_q _ _ _ _))
    go_wp2_with fail
    go_ret
    exact ⟨by rw [← HF.out]; rfl, by (repeat first | with_reducible assumption | with_reducible refine Below_drewN ?_ _)⟩
   ·have HK0 : Hid (limitC x (zs.take j) = if (zs.take j).any (fun y => decide (y.r = x.r) && decide (y.z = x.z)) = true then 6 else 0) := Lib.hid (by unfold limitC; rw [hp]; rfl)
    go_wp2_with fail
    go_quiet ((go_at_call 127; exact rplaced_q _ _ _ _))
    go_wp2_with fail
    clear hp x0 x1
    obtain ⟨wo, hwo⟩ : ∃ wo, wo = wr := ⟨_, rfl⟩
    subst hwo
    go_loopw [4] (fun k wr => ∃ t : Nat, t ≤ j ∧ k = .int .i64 t ∧ Hid (∀ y ∈ zs.take t, ¬(y.r = x.r ∧ y.z = x.z)) ∧ Below w.heap.size w wr ∧ w.heap.size < wr.heap.size ∧ wr.cell? ⟨w.heap.size, 3, none⟩ = some (.slice (some ⟨b, o, none⟩) lc cc)) (fun k _ => j - (intOf k).toNat)
    case atStart => exact ⟨0, Nat.zero_le _, rfl, Lib.hid (fun y hy => by simp at hy), by (repeat first | with_reducible assumption | with_reducible refine Below_drewN ?_ _), by simpa using hq, by go_simp⟩
    case round =>
     obtain ⟨t, ht, rfl, hU, hBx, hqx, q2⟩ := hrel
     by_cases htj : t < j
     ·obtain ⟨y, hy⟩ : ∃ y, zs[t]? = some y := ⟨_, List.getElem?_eq_getElem (by rw [HI.out.1]; omega)⟩
      have y0 : wr.cell? ⟨b, o + t * 2, none⟩ = some (.int .i64 y.r) := by have h := (HI.out.below hBx).get hy (i := 0) rfl; simpa using h
      have y1 : wr.cell? ⟨b, o + t * 2 + 1, none⟩ = some (.int .i64 y.z) := by have h := (HI.out.below hBx).get hy (i := 1) rfl; simpa using h
      have x0 : wr.cell? ⟨b, o + j * 2, none⟩ = some (.int .i64 x.r) := by have h := (HI.out.below hBx).get HX.out (i := 0) rfl; simpa using h
      have x1 : wr.cell? ⟨b, o + j * 2 + 1, none⟩ = some (.int .i64 x.z) := by have h := (HI.out.below hBx).get HX.out (i := 1) rfl; simpa using h
      have hyt : zs.take (t + 1) = zs.take t ++ [y] := by
       obtain ⟨hk, rfl⟩ := List.getElem?_eq_some_iff.1 hy
       exact List.take_succ_eq_append_getElem hk
      have hym : y ∈ zs.take j := List.mem_take_iff_getElem.2 ⟨t, by rw [HI.out.1]; omega, by
       obtain ⟨hk, rfl⟩ := List.getElem?_eq_some_iff.1 hy
       rfl⟩
      have HYT := Lib.hid hyt
      clear hy hyt
      have tc : (0 : Int) ≤ t := by omega
      have tn : ((t : Int)).toNat = t := by omega
      by_cases e : y.r = x.r ∧ y.z = x.z
      ·have HF : Hid ((6 : Int) = G) := Lib.hid (by
        rw [HS.out, HK0.out, if_pos (List.any_eq_true.2 ⟨y, hym, by rw [decide_eq_true e.1, decide_eq_true e.2]; rfl⟩)]; rfl)
       rw [e.1] at y0
       rw [e.2] at y1
       clear e HS HK0 HYT hym
       go_wp2_with fail
       go_quiet (fail)
       go_wp2_with fail
       go_ret
       exact ⟨by rw [← HF.out]; rfl, by (repeat first | with_reducible assumption | with_reducible refine Below_drewN ?_ _)⟩
      ·have HU2 : Hid (∀ u ∈ zs.take (t + 1), ¬(u.r = x.r ∧ u.z = x.z)) := Lib.hid (by
        rw [HYT.out]; intro u hu
        rcases List.mem_append.1 hu with hu | hu
        ·exact hU.out u hu
        ·obtain rfl : u = y := by simpa using hu
         exact e)
       have hne : (y.r == x.r) = false ∨ ((y.r == x.r) = true ∧ (y.z == x.z) = false) := by
        by_cases e1 : y.r = x.r
        ·right; rw [beq_iff_eq, beq_eq_false_iff_ne]; exact ⟨e1, fun e2 => e ⟨e1, e2⟩⟩
        ·left; rw [beq_eq_false_iff_ne]; exact e1
       clear e HYT hym
       rcases hne with z1 | ⟨z1, z2⟩
       ·go_wp2_with fail
        go_quiet (fail)
        go_wp2_with fail
        go_roundw
        case rel => exact ⟨t + 1, by omega, by go_num, HU2, by (repeat first | with_reducible assumption | with_reducible refine Below_drewN ?_ _), by simpa using hqx, by go_simp⟩
        case measure => simp [intOf]; omega
       ·go_wp2_with fail
        go_quiet (fail)
        go_wp2_with fail
        go_roundw
        case rel => exact ⟨t + 1, by omega, by go_num, HU2, by (repeat first | with_reducible assumption | with_reducible refine Below_drewN ?_ _), by simpa using hqx, by go_simp⟩
        case measure => simp [intOf]; omega
     ·obtain rfl : t = j := by omega
      have HN : Hid (eachGo limitC (zs.take (t + 1)) (zs.drop (t + 1)) = G) := Lib.hid (by
       have hno : ¬((zs.take t).any (fun y => decide (y.r = x.r) && decide (y.z = x.z)) = true) := fun h => by
        obtain ⟨u, hu, hd⟩ := List.any_eq_true.1 h
        exact hU.out u hu (by simpa using hd)
       rw [HS.out, HK0.out, if_neg hno]; rfl)
      clear HS HK0
      go_wp2_with fail
      go_roundw
      case rel => exact ⟨t + 1, by omega, by go_num, HN, by (repeat with_reducible assumption), hqx, by go_simp⟩
      case measure => simp [intOf]; omega
  ·have HN : Hid ((0 : Int) = G) := Lib.hid (by rw [← hG.out, List.drop_of_length_le (by rw [HI.out.1]; omega)]; rfl)
   go_wp2
   go_ret
   exact ⟨by rw [← HN.out]; rfl, by (repeat with_reducible assumption)⟩
end
end Go.Proofs.YthggkidiidnaoaaGreat
