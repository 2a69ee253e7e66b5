import Derived.Test.YthggkidiidnaoaaGreatDoorKAA
import Derived.Test.YthggkidiidnaoaaGreatDoorKAB
import Derived.RegionTactic
import Derived.StillTailTactics
import Derived.Deep.DeepCutAuto
import Derived.Deep.RegionLaw
import Derived.Deep.QuietTactic
import Derived.BigQuiet
import Derived.Deep.RegionHeld3
import Derived.Lib.Hide
import Derived.Laws.MathBits
import Derived.Laws.Externs
import Derived.Shelf.Bits.Mul64
import Derived.Shelf.Abstract
namespace Go.Proofs.YthggkidiidnaoaaGreatDoor
set_option linter.unusedVariables false
set_option linter.unusedSimpArgs false
section
theorem getD_set (l : List Int) (p q : Nat) (v : Int) (hp : p < l.length) : (l.set p v).getD q 0 = if p = q then v else l.getD q 0 := by
 rw [List.getD_eq_getElem?_getD, List.getD_eq_getElem?_getD, List.getElem?_set]
 by_cases h : p = q
 ·subst h; simp [hp]
 ·simp [h]
theorem digs_getD {P : List Int} (h : Digs P) (i : Nat) : 0 ≤ P.getD i 0 ∧ P.getD i 0 < 10000 := by
 rw [List.getD_eq_getElem?_getD]
 by_cases hi : i < P.length
 ·rw [List.getElem?_eq_getElem hi]
  exact h _ (List.getElem_mem hi)
 ·rw [List.getElem?_eq_none (by omega)]
  exact ⟨Int.le_refl _, by show (0 : Int) < 10000; omega⟩
theorem val_take_succ (P : List Int) (i : Nat) (h : i < P.length) : val (P.take (i + 1)) = val (P.take i) + pw i * P.getD i 0 := by
 rw [List.take_succ_eq_append_getElem h, val_snoc, List.length_take, Nat.min_eq_left (by omega), List.getD_eq_getElem?_getD, List.getElem?_eq_getElem h]
 rfl
theorem val_replicate (k : Nat) : val (List.replicate k 0) = 0 := by
 induction k with
 | zero => rfl
 | succ k ih => show 0 + 10000 * val (List.replicate k 0) = 0; rw [ih]; rfl
theorem dig_mul {x y : Int} (h0 : 0 ≤ x) (h1 : x < 10000) (k0 : 0 ≤ y) (k1 : y < 10000) : 0 ≤ x * y ∧ x * y ≤ 100000000 := by
 refine ⟨Int.mul_nonneg h0 k0, ?_⟩
 have a := Int.mul_le_mul_of_nonneg_left (show y ≤ 10000 by omega) h0
 omega
def Conv (P Q O : List Int) (i k : Nat) : Prop :=
 O.length = P.length + Q.length + 1 ∧ val O = val (P.take i) * val Q + P.getD i 0 * (pw i * val (Q.take k)) ∧ ∀ p, 0 ≤ O.getD p 0 ∧ O.getD p 0 ≤ ((i * 16 + k : Nat) : Int) * 100000000
theorem conv_start (P Q : List Int) : Conv P Q (List.replicate (P.length + Q.length + 1) 0) 0 0 := by
 refine ⟨by simp, ?_, fun p => ?_⟩
 ·rw [val_replicate]; show (0 : Int) = 0 * val Q + P.getD 0 0 * (1 * 0); rw [Int.zero_mul, Int.mul_zero, Int.mul_zero]; rfl
 ·have : (List.replicate (P.length + Q.length + 1) (0 : Int)).getD p 0 = 0 := by
   rw [List.getD_eq_getElem?_getD]
   by_cases h : p < P.length + Q.length + 1
   ·rw [List.getElem?_replicate, if_pos h]; rfl
   ·rw [List.getElem?_eq_none (by simp; omega)]; rfl
  rw [this]
  omega
theorem conv_step {P Q O : List Int} {i k : Nat} (hP : Digs P) (hQ : Digs Q) (hi : i < P.length) (hk : k < Q.length) (h : Conv P Q O i k) :
  Conv P Q (O.set (i + k) (O.getD (i + k) 0 + P.getD i 0 * Q.getD k 0)) i (k + 1) := by
 obtain ⟨h1, h2, h3⟩ := h
 have hp := digs_getD hP i
 have hq := digs_getD hQ k
 have hm := dig_mul hp.1 hp.2 hq.1 hq.2
 refine ⟨by rw [List.length_set]; exact h1, ?_, fun p => ?_⟩
 ·rw [val_set _ _ _ (by omega), h2, val_take_succ Q k hk, pw_add, Int.mul_add, Int.mul_add, Int.add_assoc]
  congr 2
  simp only [Int.mul_assoc, Int.mul_comm, Int.mul_left_comm]
 ·rw [getD_set _ _ _ _ (by omega)]
  have h4 := h3 p
  by_cases he : i + k = p
  ·rw [if_pos he, he]
   omega
  ·rw [if_neg he]
   omega
theorem conv_row {P Q O : List Int} {i : Nat} (hi : i < P.length) (hm : Q.length ≤ 16) (h : Conv P Q O i Q.length) : Conv P Q O (i + 1) 0 := by
 obtain ⟨h1, h2, h3⟩ := h
 refine ⟨h1, ?_, fun p => ?_⟩
 ·rw [h2, List.take_length, val_take_succ P i hi, List.take_zero, Int.add_mul]
  show _ = _ + P.getD (i + 1) 0 * (pw (i + 1) * 0)
  rw [Int.mul_zero, Int.mul_zero, Int.add_zero]
  congr 1
  simp only [Int.mul_assoc, Int.mul_comm, Int.mul_left_comm]
 ·have := h3 p
  omega
theorem conv_bound {P Q O : List Int} {i k : Nat} (hi : i ≤ 16) (hk : k ≤ 16) (h : Conv P Q O i k) (p : Nat) : 0 ≤ O.getD p 0 ∧ O.getD p 0 ≤ 30000000000 := by
 have := h.2.2 p
 omega
def Car (V : Int) (L : Nat) (O : List Int) (i : Nat) : Prop :=
 O.length = L ∧ val O = V ∧ (∀ p, p < i → 0 ≤ O.getD p 0 ∧ O.getD p 0 < 10000) ∧ ∀ p, 0 ≤ O.getD p 0 ∧ (O.getD p 0 ≤ 30000000000 ∨ (p = i ∧ O.getD p 0 ≤ 60000000000))
theorem car_start {P Q O : List Int} (hn : P.length ≤ 16) (hm : Q.length ≤ 16) (h : Conv P Q O P.length 0) : Car (val P * val Q) (P.length + Q.length + 1) O 0 := by
 refine ⟨h.1, ?_, fun p hp => by omega, fun p => ?_⟩
 ·rw [h.2.1, List.take_length, List.take_zero]
  show _ + P.getD P.length 0 * (pw P.length * 0) = _
  rw [Int.mul_zero, Int.mul_zero, Int.add_zero]
 ·have := conv_bound hn (by omega) h p
  exact ⟨this.1, .inl this.2⟩
theorem car_step {V : Int} {L i : Nat} {O : List Int} (hi : i + 1 < L) (h : Car V L O i) :
  Car V L ((O.set (i + 1) (O.getD (i + 1) 0 + O.getD i 0 / 10000)).set i (O.getD i 0 % 10000)) (i + 1) := by
 obtain ⟨h1, h2, h3, h4⟩ := h
 have ai := h4 i
 have aj := h4 (i + 1)
 have q0 : 0 ≤ O.getD i 0 / 10000 := Int.ediv_nonneg ai.1 (by decide)
 have q1 : O.getD i 0 / 10000 ≤ 30000000000 := by omega
 have r0 := Int.emod_nonneg (O.getD i 0) (show (10000 : Int) ≠ 0 by decide)
 have r1 := Int.emod_lt_of_pos (O.getD i 0) (show (0 : Int) < 10000 by decide)
 have e := Int.mul_ediv_add_emod (O.getD i 0) 10000
 have hs : (O.set (i + 1) (O.getD (i + 1) 0 + O.getD i 0 / 10000)).getD i 0 = O.getD i 0 := by
  rw [getD_set _ _ _ _ (by omega), if_neg (by omega)]
 refine ⟨by simp [h1], ?_, fun p hp => ?_, fun p => ?_⟩
 ·have v1 := val_set O (i + 1) (O.getD i 0 / 10000) (by omega)
  have v2 := val_set (O.set (i + 1) (O.getD (i + 1) 0 + O.getD i 0 / 10000)) i (O.getD i 0 % 10000 - O.getD i 0) (by simp; omega)
  rw [hs, show O.getD i 0 + (O.getD i 0 % 10000 - O.getD i 0) = O.getD i 0 % 10000 by omega, v1, h2] at v2
  rw [v2, pw_succ, Int.mul_comm 10000, Int.mul_assoc, Int.add_assoc, ← Int.mul_add, show 10000 * (O.getD i 0 / 10000) + (O.getD i 0 % 10000 - O.getD i 0) = 0 by omega, Int.mul_zero, Int.add_zero]
 ·rw [getD_set _ _ _ _ (by simp; omega)]
  by_cases he : i = p
  ·rw [if_pos he]; exact ⟨r0, r1⟩
  ·rw [if_neg he, getD_set _ _ _ _ (by omega), if_neg (by omega)]
   exact h3 p (by omega)
 ·rw [getD_set _ _ _ _ (by simp; omega)]
  by_cases he : i = p
  ·rw [if_pos he]; exact ⟨r0, .inl (by omega)⟩
  ·rw [if_neg he, getD_set _ _ _ _ (by omega)]
   by_cases he2 : i + 1 = p
   ·rw [if_pos he2]
    refine ⟨by omega, .inr ⟨he2.symm, by omega⟩⟩
   ·rw [if_neg he2]
    have := h4 p
    refine ⟨this.1, .inl (by omega)⟩
theorem car_end {P Q O : List Int} (hP : Digs P) (hQ : Digs Q) (h : Car (val P * val Q) (P.length + Q.length + 1) O (P.length + Q.length)) : Digs O ∧ val O = val P * val Q := by
 obtain ⟨h1, h2, h3, h4⟩ := h
 refine ⟨fun d hd => ?_, h2⟩
 have top : O.getD (P.length + Q.length) 0 < 10000 := by
  have ht := val_take_succ O (P.length + Q.length) (by omega)
  rw [List.take_of_length_le (by omega), h2] at ht
  have hb := val_bound (l := O.take (P.length + Q.length)) (fun x hx => by
   obtain ⟨j, hj, rfl⟩ := List.mem_iff_getElem.1 hx
   have hj' : j < P.length + Q.length := by simp at hj; omega
   have := h3 j hj'
   rw [List.getD_eq_getElem?_getD, List.getElem?_eq_getElem (by omega)] at this
   rw [List.getElem_take]
   exact this)
  have pb := val_bound hP
  have qb := val_bound hQ
  have k1 := Int.mul_le_mul_of_nonneg_left (show val Q ≤ pw Q.length by omega) pb.1
  have k2 := Int.mul_le_mul_of_nonneg_right (show val P ≤ pw P.length by omega) (show 0 ≤ pw Q.length by have := pw_pos Q.length; omega)
  rw [← pw_add] at k2
  have pp := pw_pos (P.length + Q.length)
  rcases Int.lt_or_le (O.getD (P.length + Q.length) 0) 2 with h5 | h5
  ·omega
  ·have k3 := Int.mul_le_mul_of_nonneg_left h5 (show 0 ≤ pw (P.length + Q.length) by omega)
   omega
 obtain ⟨j, hj, rfl⟩ := List.mem_iff_getElem.1 hd
 have e : O.getD j 0 = O[j] := by rw [List.getD_eq_getElem?_getD, List.getElem?_eq_getElem hj]; rfl
 rw [← e]
 rcases Nat.lt_or_ge j (P.length + Q.length) with h5 | h5
 ·exact h3 j h5
 ·rw [show j = P.length + Q.length by omega]
  exact ⟨(h4 _).1, top⟩
end
section
open Go.RowKit
def RowI (w : World) (y : Nat) (O : List Int) : Prop := w.heap[y]? = some (.cells (O.map (Value.int .i64)).toArray 3 (0, 0))
theorem RowI.cell {w : World} {y : Nat} {O : List Int} (h : RowI w y O) {p : Nat} (hp : p < O.length) : w.cell? ⟨y, p, none⟩ = some (.int .i64 (O.getD p 0)) := by
 rw [cell_of_row w y p _ _ _ h]
 simp [hp, List.getD]
theorem RowI.frozen {w : World} {y : Nat} {O : List Int} (h : RowI w y O) (p : Nat) : w.frozen? ⟨y, p, none⟩ = false := by
 unfold RowI at h
 simp [World.frozen?, h]
theorem RowI.store {w : World} {y : Nat} {O : List Int} (h : RowI w y O) (p : Nat) (v : Int) : RowI (w.setCell ⟨y, p, none⟩ (.int .i64 v)) y (O.set p v) := by
 unfold RowI at h ⊢
 simp [World.setCell, Array.getElem?_modify, h, List.map_set]
theorem heap_new_at {w : World} {o : Obj} {k : Nat} (h : w.heap.size = k) : (w.alloc o).heap[k]? = some o := by subst h; exact heap_alloc_new w o
theorem RowI.lt {w : World} {y : Nat} {O : List Int} (h : RowI w y O) : y < w.heap.size := by
 unfold RowI at h
 rcases Nat.lt_or_ge y w.heap.size with h1 | h1
 ·exact h1
 ·rw [Array.getElem?_eq_none h1] at h
  cases h
theorem RowI.isI {w : World} {y base : Nat} {O : List Int} (h : RowI w y O) (hb : base ≤ y) : IsI w base (some ⟨y, 0, none⟩) O.length O :=
 ⟨rfl, fun _ => ⟨y, 0, rfl, hb, h.lt, fun j hj => by rw [Nat.zero_add]; exact h.cell hj⟩⟩
structure TW (w wr : World) (x y : Nat) (s0 s1 sx : Value) (bx : Bool) : Prop where
 c0 : wr.cell? ⟨w.heap.size, 1, none⟩ = some s0
 c1 : wr.cell? ⟨w.heap.size + 1, 1, none⟩ = some s1
 cx : wr.cell? ⟨x, 0, none⟩ = some (.bool bx)
 cx1 : wr.cell? ⟨x, 1, none⟩ = some sx
 hx : w.heap.size + 2 < x
 hy : w.heap.size + 2 < y
 hxy : x ≠ y
 lx : x < wr.heap.size
 ly : y < wr.heap.size
 r0 : (wr.cell? ⟨w.heap.size + 1 + 1, 0, none⟩).isSome = true
 f0 : wr.frozen? ⟨w.heap.size + 1 + 1, 0, none⟩ = false
 r1 : (wr.cell? ⟨w.heap.size + 1 + 1, 1, none⟩).isSome = true
 f1 : wr.frozen? ⟨w.heap.size + 1 + 1, 1, none⟩ = false
 hB : Below w.heap.size w wr
theorem TW.drew {w wr : World} {x y : Nat} {s0 s1 sx : Value} {bx : Bool} (h : TW w wr x y s0 s1 sx bx) : TW w wr.drew x y s0 s1 sx bx :=
 ⟨h.c0, h.c1, h.cx, h.cx1, h.hx, h.hy, h.hxy, h.lx, h.ly, h.r0, h.f0, h.r1, h.f1, h.hB.drew⟩
theorem TW.store {w wr : World} {x y : Nat} {s0 s1 sx : Value} {bx : Bool} (h : TW w wr x y s0 s1 sx bx) (p : Nat) (v : Value) : TW w (wr.setCell ⟨y, p, none⟩ v) x y s0 s1 sx bx := by
 have hy := h.hy
 have ne : ∀ b o : Nat, b ≠ y → (⟨y, p, none⟩ : Addr) ≠ ⟨b, o, none⟩ := fun b o hb e => hb (by injection e with e; exact e.symm)
 refine ⟨?_, ?_, ?_, ?_, h.hx, hy, h.hxy, by rw [World.size_setCell]; exact h.lx, by rw [World.size_setCell]; exact h.ly, by rw [isSome_setCell]; exact h.r0, by rw [World.frozen?_setCell]; exact h.f0, by rw [isSome_setCell]; exact h.r1, by rw [World.frozen?_setCell]; exact h.f1, h.hB.setCell (by simp; omega) _⟩
 ·rw [World.cell?_setCell_other _ _ _ _ (ne _ _ (by omega))]; exact h.c0
 ·rw [World.cell?_setCell_other _ _ _ _ (ne _ _ (by omega))]; exact h.c1
 ·rw [World.cell?_setCell_other _ _ _ _ (ne _ _ h.hxy)]; exact h.cx
 ·rw [World.cell?_setCell_other _ _ _ _ (ne _ _ h.hxy)]; exact h.cx1
set_option maxHeartbeats 8000000 in
set_option maxRecDepth 100000 in
theorem times_any (na nb : Bool) (A B : Option Addr) (n m ca cb : Nat) (P Q : List Int) (w : World) (hI : IsI w 0 A n P) (hJ : IsI w 0 B m Q) (hn : n ≤ 16) (hm : m ≤ 16) (hP : Digs P) (hQ : Digs Q) :
  Calls Tryz.prog 145 #[.agg #[.bool na, .slice A n ca], .agg #[.bool nb, .slice B m cb]] w (fun e w' => ∃ O, val O = val P * val Q ∧ Digs O ∧ O.length ≤ 33 ∧ Trimmed w.heap.size (na != nb) (n + m + 1) O w e w') := by
 have HI := Lib.hid hI
 have HJ := Lib.hid hJ
 have HP := Lib.hid hP
 have HQ := Lib.hid hQ
 have LP := Lib.hid hI.1
 have LQ := Lib.hid hJ.1
 clear hI hJ hP hQ
 go_enter Tryz.func145, Tryz.ntmps145
 go_upto_region 1 with fail
 go_cut [5] (fun s5 wx => ∃ x y : Nat, s5 = .pointer (some ⟨x, 0, none⟩) ∧ TW w wx x y (.slice A n ca) (.slice B m cb) (.slice (some ⟨y, 0, none⟩) (n + m + 1) (n + m + 1)) (na != nb) ∧ RowI wx y (List.replicate (n + m + 1) 0))
 case first =>
  have hI0 : (Tryz.prog.info? 3).map (fun i => (i.zero, i.size, i.bytes)) = some (some (.int .i64 0), 1, 8) := by kernel_rfl
  obtain ⟨i0, hi, hz0, hz1, hz2⟩ := info_parts hI0
  obtain ⟨Z, hmk, hZ⟩ : ∃ Z : Array Value, (∀ W : World, (Instr.makeSlice 30 (.int .i64 ((n : Int) + m + 1)) (.int .i64 ((n : Int) + m + 1))).run Tryz.prog W = .ok (.slice (some ⟨W.heap.size, 0, none⟩) (n + m + 1) (n + m + 1)) (W.alloc (.cells Z 3))) ∧ Z = ((List.replicate (n + m + 1) 0).map (Value.int .i64)).toArray := by
   refine ⟨_, fun W => ?_, rfl⟩
   have := run_make W 30 3 i0 (.int .i64 0) Tryz.underlying30 hi hz0 .i64 .i64 ((n : Int) + m + 1) ((n : Int) + m + 1) (by omega) (Int.le_refl _) (by rw [hz2]; omega) (by omega)
   rw [this, hz1, show ((n : Int) + m + 1).toNat = n + m + 1 by omega]
   have e : madeCells (Value.int .i64 0).cells ((n + m + 1) * 1) = ((List.replicate (n + m + 1) 0).map (Value.int .i64)).toArray := by
    apply Array.ext
    ·simp [madeCells]
    ·intro j h1 h2
     simp [madeCells, Value.cells, Nat.mod_one]
   rw [e]
  clear hi hz0 hz1 hz2 hI0
  have HZ := Lib.hid hZ
  clear hZ
  have W0 : IntKind.i64.wrap ((n : Int) + m) = n + m := IntWalk.i64_in _ (by omega)
  have W1 : IntKind.i64.wrap ((n : Int) + m + 1) = n + m + 1 := IntWalk.i64_in _ (by omega)
  go_region
  all_goals go_wp2_with fail
  all_goals go_meet
  ·refine ⟨w.heap.size + 1 + 1 + 1 + 1, w.heap.size + 1 + 1 + 1, rfl, ⟨(by go_simp), (by go_simp), (by go_simp; cases na <;> cases nb <;> rfl), (by go_simp), (by omega), (by omega), (by omega), (by simp), (by simp), (by go_simp), (by go_simp), (by go_simp), (by go_simp), (by (repeat first | with_reducible exact Below.refl _ _ | (with_reducible refine Below.alloc ?_ ?_ _; rotate_left; exact (by first | omega | (simp; done) | (simp; omega))) | with_reducible refine Below.drew ?_))⟩, ?_⟩
   unfold RowI
   rw [← HZ.out]
   exact (Below.heap_alloc _ _ _ (by simp)).trans (heap_new_at (by simp))
  ·refine ⟨w.heap.size + 1 + 1 + 1, w.heap.size + 1 + 1 + 1 + 1, rfl, ⟨(by go_simp), (by go_simp), (by go_simp; cases na <;> cases nb <;> rfl), (by go_simp), (by omega), (by omega), (by omega), (by simp), (by simp), (by go_simp), (by go_simp), (by go_simp), (by go_simp), (by (repeat first | with_reducible exact Below.refl _ _ | (with_reducible refine Below.alloc ?_ ?_ _; rotate_left; exact (by first | omega | (simp; done) | (simp; omega))) | with_reducible refine Below.drew ?_))⟩, ?_⟩
   unfold RowI
   rw [← HZ.out]
   exact heap_new_at (by simp)
 case rest =>
  obtain ⟨x, y, rfl, ht, hrow⟩ := hcut
  have HR := Lib.hid (show RowI wc y (List.replicate (n + m + 1) 0) ∧ Conv P Q (List.replicate (n + m + 1) 0) 0 0 from ⟨hrow, by have := conv_start P Q; rwa [LP.out, LQ.out] at this⟩)
  have HT := Lib.hid ht
  clear ht hrow
  go_wp2_with fail
  go_loopw [6, 7] (fun i _ wr => ∃ (j : Nat) (O : List Int), j ≤ n ∧ i = .int .i64 j ∧ TW w wr x y (.slice A n ca) (.slice B m cb) (.slice (some ⟨y, 0, none⟩) (n + m + 1) (n + m + 1)) (na != nb) ∧ RowI wr y O ∧ Conv P Q O j 0) (fun i _ _ => n - (intOf i).toNat)
  case atStart => exact ⟨0, _, Nat.zero_le _, rfl, HT.out, HR.out.1, HR.out.2⟩
  case round =>
   obtain ⟨j, O, hj, rfl, ht, hrow, hcv⟩ := hrel
   have t0 := ht.c0
   have t1 := ht.c1
   have t2 := ht.cx1
   by_cases hlt : j < n
   ·have HT1 := Lib.hid ht
    have HR1 := Lib.hid (And.intro hrow hcv)
    clear ht hrow hcv
    obtain ⟨wo, rfl⟩ : ∃ wo : World, wo = wr := ⟨_, rfl⟩
    go_wp2_with fail
    go_loopw [7] (fun k wr => ∃ (l : Nat) (O : List Int), l ≤ m ∧ k = .int .i64 l ∧ TW w wr x y (.slice A n ca) (.slice B m cb) (.slice (some ⟨y, 0, none⟩) (n + m + 1) (n + m + 1)) (na != nb) ∧ RowI wr y O ∧ Conv P Q O j l) (fun k _ => m - (intOf k).toNat)
    case atStart => exact ⟨0, _, Nat.zero_le _, rfl, HT1.out, HR1.out.1, HR1.out.2⟩
    case round =>
     obtain ⟨l, O, hl, rfl, ht, hrow, hcv⟩ := hrel
     have t0 := ht.c0
     have t1 := ht.c1
     have t2 := ht.cx1
     by_cases hlt2 : l < m
     ·obtain ⟨a, ao, rfl, _, ha, hcP⟩ := HI.out.2 (by omega)
      obtain ⟨b, bo, rfl, _, hb, hcQ⟩ := HJ.out.2 (by omega)
      have p0 := (ht.hB.cell (p := ⟨a, ao + j, none⟩) ha).trans (hcP j hlt)
      have q0 := (ht.hB.cell (p := ⟨b, bo + l, none⟩) hb).trans (hcQ l hlt2)
      have hlO : O.length = n + m + 1 := by rw [hcv.1, LP.out, LQ.out]
      have o0 := hrow.cell (p := j + l) (by omega)
      have of0 := hrow.frozen (j + l)
      have ly := ht.ly
      have cs := conv_step HP.out HQ.out (by rw [LP.out]; exact hlt) (by rw [LQ.out]; exact hlt2) hcv
      have bo' := conv_bound (by omega) (by omega) hcv (j + l)
      have bp := digs_getD HP.out j
      have bq := digs_getD HQ.out l
      have bm := dig_mul bp.1 bp.2 bq.1 bq.2
      clear hcP hcQ hcv
      generalize P.getD j 0 = dp at *
      generalize Q.getD l 0 = dq at *
      generalize O.getD (j + l) 0 = d0 at *
      have HCS := Lib.hid cs
      have HT3 := Lib.hid ht
      have HR3 := Lib.hid hrow
      have HLO := Lib.hid hlO
      clear cs ht hrow hlO
      obtain ⟨bo1, bo2⟩ := bo'
      obtain ⟨bm1, bm2⟩ := bm
      have j0 : (0 : Int) ≤ j := by omega
      have j1 : (j : Int) < n := by omega
      have l0 : (0 : Int) ≤ l := by omega
      have l1 : (l : Int) < m := by omega
      go_wp2_with fail
      have X0 : IntKind.i64.wrap ((j : Int) + l) = j + l := IntWalk.i64_in _ (by omega)
      have X1 : IntKind.i64.wrap (dp * dq) = dp * dq := IntWalk.i64_in _ (by omega)
      have X2 : IntKind.i64.wrap (d0 + dp * dq) = d0 + dp * dq := IntWalk.i64_in _ (by omega)
      have X3 : ((j : Int) + l).toNat = j + l := by omega
      have X4 : (0 : Int) ≤ (j : Int) + l := by omega
      have X5 : (j : Int) + l < n + m + 1 := by omega
      go_still_tail 25, (by kernel_rfl)
      change wpList _ _ _ _ _ wr.drew
      go_wp2
      go_roundw
      case rel => exact ⟨l + 1, _, by omega, by go_num, (HT3.out.drew).store _ _, RowI.store (w := wr.drew) HR3.out _ _, HCS.out⟩
      case measure => simp [intOf]; omega
     ·have hlm : l = m := by omega
      subst hlm
      have HCV := Lib.hid (conv_row (by rw [LP.out]; exact hlt) (by rw [LQ.out]; exact hm) (by rw [LQ.out]; exact hcv))
      have HT2 := Lib.hid ht
      have HR2 := Lib.hid hrow
      clear ht hrow hcv
      go_wp2
      go_roundw
      case rel => exact ⟨j + 1, O, by omega, by go_num, HT2.out, HR2.out, HCV.out⟩
      case measure => simp [intOf]; omega
   ·have hjn : j = n := by omega
    subst hjn
    have HC := Lib.hid (car_start (by rw [LP.out]; exact hn) (by rw [LQ.out]; exact hm) (by rw [LP.out]; exact hcv))
    have HT4 := Lib.hid ht
    have HR4 := Lib.hid hrow
    clear ht hrow hcv
    obtain ⟨wo, rfl⟩ : ∃ wo : World, wo = wr := ⟨_, rfl⟩
    go_wp2_with fail
    go_loopw [8] (fun i wr => ∃ (c : Nat) (O : List Int), c < j + m + 1 ∧ i = .int .i64 c ∧ TW w wr x y (.slice A j ca) (.slice B m cb) (.slice (some ⟨y, 0, none⟩) (j + m + 1) (j + m + 1)) (na != nb) ∧ RowI wr y O ∧ Car (val P * val Q) (j + m + 1) O c) (fun i _ => j + m + 1 - (intOf i).toNat)
    case atStart => exact ⟨0, _, by omega, rfl, HT4.out, HR4.out, (by have := HC.out; rwa [LP.out, LQ.out] at this)⟩
    case round =>
     obtain ⟨c, O, hc, rfl, ht, hrow, hcr⟩ := hrel
     have t2 := ht.cx1
     by_cases hlt3 : c + 1 < j + m + 1
     ·have hlO : O.length = j + m + 1 := hcr.1
      have o0 := hrow.cell (p := c) (by omega)
      have o1 := hrow.cell (p := c + 1) (by omega)
      have of0 := hrow.frozen c
      have of1 := hrow.frozen (c + 1)
      have ly := ht.ly
      have hxy := ht.hxy
      have cs := car_step hlt3 hcr
      obtain ⟨b1, b2⟩ := hcr.2.2.2 c
      obtain ⟨b3, b4⟩ := hcr.2.2.2 (c + 1)
      clear hcr
      generalize hd0 : O.getD c 0 = d0 at *
      have HD0 := Lib.hid hd0
      clear hd0
      generalize O.getD (c + 1) 0 = d1 at *
      have b2' : d0 ≤ 60000000000 := by omega
      have b4' : d1 ≤ 60000000000 := by omega
      have b5 : 0 ≤ d0 / 10000 := Int.ediv_nonneg b1 (by decide)
      have b6 : d0 / 10000 ≤ 60000000000 := by omega
      have hl : Hid (O.length = j + m + 1) := Lib.hid hlO
      have HCS := Lib.hid cs
      have HT5 := Lib.hid ht
      have HR5 := Lib.hid hrow
      clear cs ht hrow b2 b4 hlO
      have c0 : (0 : Int) ≤ c := by omega
      have c1 : (c : Int) + 1 < j + m + 1 := by omega
      have c2 : (c : Int) < j + m + 1 := by omega
      go_wp2_with fail
      have X0 : IntKind.i64.wrap ((c : Int) + 1) = c + 1 := IntWalk.i64_in _ (by omega)
      have X2 : IntKind.i64.wrap (d1 + d0 / 10000) = d1 + d0 / 10000 := IntWalk.i64_in _ (by omega)
      have X3 : ((c : Int) + 1).toNat = c + 1 := by omega
      have X4 : (0 : Int) ≤ (c : Int) + 1 := by omega
      have X5 : d0.tdiv 10000 = d0 / 10000 := Int.tdiv_eq_ediv_of_nonneg b1
      have X6 : IntKind.i64.wrap (d0 / 10000) = d0 / 10000 := IntWalk.i64_in _ (by omega)
      have X7 : d0.tmod 10000 = d0 % 10000 := Int.tmod_eq_emod_of_nonneg b1
      go_still_tail 18, (by kernel_rfl)
      change wpList _ _ _ _ _ wr.drew
      go_wp2_with fail
      have HT6 := Lib.hid ((HT5.out.store (c + 1) (.int .i64 (d1 + d0 / 10000))).drew)
      have HR6 := Lib.hid (show RowI (wr.setCell ⟨y, c + 1, none⟩ (.int .i64 (d1 + d0 / 10000))).drew y (O.set (c + 1) (d1 + d0 / 10000)) from RowI.store HR5.out _ _)
      clear o0 o1 of0 of1 t2 HT5 HR5
      generalize (wr.setCell ⟨y, c + 1, none⟩ (.int .i64 (d1 + d0 / 10000))).drew = w5 at *
      have t2 := HT6.out.cx1
      have ly := HT6.out.ly
      have o0 : w5.cell? ⟨y, c, none⟩ = some (.int .i64 d0) := by
       have h := HR6.out.cell (p := c) (by rw [List.length_set, hl.out]; omega)
       rwa [getD_set _ _ _ _ (by rw [hl.out]; omega), if_neg (by omega), HD0.out] at h
      have of0 := HR6.out.frozen c
      go_still_tail 10, (by kernel_rfl)
      change wpList _ _ _ _ _ w5.drew
      go_wp2
      go_roundw
      case rel => exact ⟨c + 1, _, hlt3, by go_num, HT6.out.drew.store _ _, RowI.store (w := w5.drew) HR6.out _ _, HCS.out⟩
      case measure => simp [intOf]; omega
     ·have hcm : c = j + m := by omega
      subst hcm
      have hend := car_end HP.out HQ.out (by rw [LP.out, LQ.out]; exact hcr)
      have HE := Lib.hid hend
      have HLO := Lib.hid hcr.1
      have HRI := Lib.hid (hrow.isI (base := w.heap.size + 1 + 1 + 1) (by have := ht.hy; omega))
      have t3 := ht.cx
      have r0 := ht.r0
      have f0 := ht.f0
      have r1 := ht.r1
      have f1 := ht.f1
      have hB := ht.hB
      have hsz := hB.size
      have hx := ht.hx
      have lx := ht.lx
      clear ht hrow hcr hend
      go_wp2_with fail
      refine (trim_any (w.heap.size + 1 + 1 + 1) (na != nb) _ (j + m + 1) (j + m + 1) O _ (by have := HRI.out; rwa [HLO.out] at this) (Nat.le_refl _) (by omega) HE.out.1).mono ?_
      rintro e w1 ⟨A', k', cap', rfl, hI', q1, q2, q3, q4, hb⟩
      have HI' := Lib.hid hI'
      have H3 := Lib.hid q3
      have H4 := Lib.hid q4
      have g0 := (congrArg Option.isSome (hb.cell (p := ⟨w.heap.size + 1 + 1, 0, none⟩) (by simp; omega))).trans r0
      have g1 := (congrArg Option.isSome (hb.cell (p := ⟨w.heap.size + 1 + 1, 1, none⟩) (by simp; omega))).trans r1
      have g2 := (hb.frozen (p := ⟨w.heap.size + 1 + 1, 0, none⟩) (by simp; omega)).trans f0
      have g3 := (hb.frozen (p := ⟨w.heap.size + 1 + 1, 1, none⟩) (by simp; omega)).trans f1
      have hB1 : Below w.heap.size w w1 := hB.trans (hb.mono hsz)
      obtain ⟨z0, g0⟩ := Option.isSome_iff_exists.1 g0
      obtain ⟨z1, g1⟩ := Option.isSome_iff_exists.1 g1
      clear hI' q3 q4 hb r0 r1
      go_wp2
      exact bodyPost_ret (res2b Tryz.results145 _ _ _ _ _ rfl (by (try simp only [isSome_setCell]); first | assumption | go_simp) (by (try simp only [isSome_setCell]); first | assumption | go_simp)) rfl ⟨O, HE.out.2, HE.out.1, by rw [HLO.out]; omega, A', k', cap', rfl, ((HI'.out.setCell (by simp) _).setCell (by simp) _).mono (by omega), q1, q2, H3.out, H4.out, by (repeat first | with_reducible assumption | (with_reducible refine Below.setCell ?_ ?_ _; rotate_left; exact (by (simp; omega))))⟩
end
section
open Go.RowKit
theorem abs_mul' (a b : Int) : max (a * b) (-(a * b)) = max a (-a) * max b (-b) := by
 rcases Int.lt_or_le a 0 with h | h <;> rcases Int.lt_or_le b 0 with k | k
 ·have := Int.mul_nonneg_of_nonpos_of_nonpos (show a ≤ 0 by omega) (show b ≤ 0 by omega)
  rw [show max a (-a) = -a by omega, show max b (-b) = -b by omega, Int.neg_mul_neg]
  omega
 ·have := Int.mul_nonneg (show 0 ≤ -a by omega) k
  rw [Int.neg_mul] at this
  rw [show max a (-a) = -a by omega, show max b (-b) = b by omega, Int.neg_mul]
  omega
 ·have := Int.mul_nonneg h (show 0 ≤ -b by omega)
  rw [Int.mul_neg] at this
  rw [show max a (-a) = a by omega, show max b (-b) = -b by omega, Int.mul_neg]
  omega
 ·have := Int.mul_nonneg h k
  rw [show max a (-a) = a by omega, show max b (-b) = b by omega]
  omega
theorem sign_mul {a b : Int} (h : a * b ≠ 0) : (decide (a < 0) != decide (b < 0)) = decide (a * b < 0) := by
 rcases Int.lt_trichotomy a 0 with ha | ha | ha <;> rcases Int.lt_trichotomy b 0 with hb | hb | hb
 ·have := Int.mul_pos_of_neg_of_neg ha hb
  rw [decide_eq_true ha, decide_eq_true hb, decide_eq_false (by omega)]; rfl
 ·subst hb; simp at h
 ·have := Int.mul_neg_of_neg_of_pos ha hb
  rw [decide_eq_true ha, decide_eq_false (by omega), decide_eq_true this]; rfl
 ·subst ha; simp at h
 ·subst ha; simp at h
 ·subst ha; simp at h
 ·have := Int.mul_neg_of_pos_of_neg ha hb
  rw [decide_eq_false (by omega), decide_eq_true hb, decide_eq_true this]; rfl
 ·subst hb; simp at h
 ·have := Int.mul_pos ha hb
  rw [decide_eq_false (by omega), decide_eq_false (by omega), decide_eq_false (by omega)]; rfl
theorem times_big (a b : Int) (u v : Value) (w : World) (hu : BigV w u a) (hv : BigV w v b) (ha : max a (-a) < pw 16) (hb : max b (-b) < pw 16) :
  Calls Tryz.prog 145 #[u, v] w (RetBig (a * b) w) := by
 obtain ⟨A, n, ca, P, rfl, h1, h2, h3, h4, h5⟩ := hu
 obtain ⟨B, m, cb, Q, rfl, k1, k2, k3, k4, k5⟩ := hv
 have ln := len_le_of_val h4 (n := 16) (by rw [h5]; exact ha)
 have lm := len_le_of_val k4 (n := 16) (by rw [k5]; exact hb)
 rw [h1.1] at ln
 rw [k1.1] at lm
 refine (times_any _ _ A B n m ca cb P Q w h1 k1 ln lm h4.1 k4.1).mono ?_
 rintro e w' ⟨O, e1, e2, e3, A', k, cap, rfl, g1, g2, g3, g4, g5, g6⟩
 have hv : val (O.take k) = max (a * b) (-(a * b)) := by rw [g5, e1, h5, k5, abs_mul']
 refine ⟨_, rfl, ⟨A', k, cap, O.take k, ?_, g1.mono (Nat.zero_le _), g2, by omega, g4, hv⟩, g6⟩
 have hk : 0 < k ↔ a * b ≠ 0 := by
  have h0 := canon_nil g4
  have hl := g1.1
  constructor
  ·intro hk h
   rw [hv, h] at h0
   have := h0.1 (by rfl)
   rw [this] at hl
   simp at hl
   omega
  ·intro h
   rcases Nat.eq_zero_or_pos k with hk | hk
   ·subst hk
    rw [hv] at h0
    have := h0.2 (by simp)
    omega
   ·exact hk
 by_cases h : a * b = 0
 ·have : ¬0 < k := fun h' => (hk.1 h') h
  rw [decide_eq_false this, Bool.and_false, decide_eq_false (by omega)]
 ·rw [decide_eq_true (hk.2 h), Bool.and_true, sign_mul h]
theorem val_gt {P Q : List Int} {k : Nat} (hP : Digs P) (hQ : Digs Q) (hl : P.length = Q.length) (hk : k < P.length) (hd : ∀ j, k < j → j < P.length → P.getD j 0 = Q.getD j 0) (hg : Q.getD k 0 < P.getD k 0) : val Q < val P := by
 have e : P.drop (k + 1) = Q.drop (k + 1) := by
  apply List.ext_getElem?
  intro i
  rw [List.getElem?_drop, List.getElem?_drop]
  by_cases hi : k + 1 + i < P.length
  ·have := hd (k + 1 + i) (by omega) hi
   rw [List.getD_eq_getElem?_getD, List.getD_eq_getElem?_getD, List.getElem?_eq_getElem hi, List.getElem?_eq_getElem (by omega)] at this
   rw [List.getElem?_eq_getElem hi, List.getElem?_eq_getElem (by omega)]
   simpa using this
  ·rw [List.getElem?_eq_none (by omega), List.getElem?_eq_none (by omega)]
 have a1 := val_append (P.take (k + 1)) (P.drop (k + 1))
 have a2 := val_append (Q.take (k + 1)) (Q.drop (k + 1))
 rw [List.take_append_drop] at a1 a2
 rw [List.length_take, Nat.min_eq_left (by omega)] at a1 a2
 rw [val_take_succ P k hk] at a1
 rw [val_take_succ Q k (by omega), ← e] at a2
 have tb : ∀ R : List Int, Digs R → k < R.length → 0 ≤ val (R.take k) ∧ val (R.take k) < pw k := fun R hR hkR => by
  have := val_bound (l := R.take k) (fun x hx => hR x (List.mem_of_mem_take hx))
  rwa [List.length_take, Nat.min_eq_left (by omega)] at this
 have b1 := tb P hP hk
 have b2 := tb Q hQ (by omega)
 have pp := pw_pos k
 have := Int.mul_le_mul_of_nonneg_left (show Q.getD k 0 + 1 ≤ P.getD k 0 by omega) (show 0 ≤ pw k by omega)
 rw [Int.mul_add, Int.mul_one] at this
 omega
theorem val_eq {P Q : List Int} (hl : P.length = Q.length) (hd : ∀ j, j < P.length → P.getD j 0 = Q.getD j 0) : P = Q := by
 apply List.ext_getElem?
 intro i
 by_cases hi : i < P.length
 ·have := hd i hi
  rw [List.getD_eq_getElem?_getD, List.getD_eq_getElem?_getD, List.getElem?_eq_getElem hi, List.getElem?_eq_getElem (by omega)] at this
  rw [List.getElem?_eq_getElem hi, List.getElem?_eq_getElem (by omega)]
  simpa using this
 ·rw [List.getElem?_eq_none (by omega), List.getElem?_eq_none (by omega)]
theorem len_lt_val {P Q : List Int} (hP : Canon P) (hQ : Canon Q) (h : P.length < Q.length) : val P < val Q := by
 have h1 := val_bound hP.1
 have hne : Q ≠ [] := by intro e; rw [e] at h; simp at h
 have h2 := canon_low hQ hne
 have h3 := pw_mono (show P.length ≤ Q.length - 1 by omega)
 omega
def cmpA (x y : Int) : Int := if y < x then 1 else if x < y then -1 else 0
set_option maxRecDepth 100000 in
set_option maxHeartbeats 8000000 in
theorem larger_any (na nb : Bool) (A B : Option Addr) (n m ca cb : Nat) (P Q : List Int) (w : World) (hI : IsI w 0 A n P) (hJ : IsI w 0 B m Q) (hn : n ≤ 64) (hm : m ≤ 64) (hP : Canon P) (hQ : Canon Q) :
  Calls Tryz.prog 142 #[.agg #[.bool na, .slice A n ca], .agg #[.bool nb, .slice B m cb]] w (fun e w' => e = .returned (.int .i64 (cmpA (val P) (val Q))) ∧ Below w.heap.size w w') := by
 rcases Nat.lt_trichotomy n m with h | h | h
 ·have e : cmpA (val P) (val Q) = -1 := by
   have := len_lt_val hP hQ (by rw [hI.1, hJ.1]; exact h)
   unfold cmpA; rw [if_neg (by omega), if_pos this]
  rw [e]
  have b0 : ((n : Int) != m) = true := by rw [bne_iff_ne]; omega
  clear e hI hJ hP hQ
  go_enter Tryz.func142, Tryz.ntmps142
  go_wp2
  go_ret
  exact ⟨rfl, by (repeat first | with_reducible exact Below.refl _ _ | (with_reducible refine Below.alloc ?_ ?_ _; rotate_left; exact (by first | omega | (simp; done))))⟩
 ·subst h
  have HI := Lib.hid hI
  have HJ := Lib.hid hJ
  have LP := Lib.hid hI.1
  have LQ := Lib.hid hJ.1
  have HP := Lib.hid hP
  have HQ := Lib.hid hQ
  clear hI hJ hP hQ
  go_enter Tryz.func142, Tryz.ntmps142
  go_wp2_with fail
  go_loopw [5] (fun i wr => ∃ k : Nat, k ≤ n ∧ i = .int .i64 ((k : Int) - 1) ∧ (∀ j, k ≤ j → j < n → P.getD j 0 = Q.getD j 0) ∧ wr.cell? ⟨w.heap.size, 1, none⟩ = some (.slice A n ca) ∧ wr.cell? ⟨w.heap.size + 1, 1, none⟩ = some (.slice B n cb) ∧ Below w.heap.size w wr) (fun i _ => (intOf i + 1).toNat)
  case atStart => exact ⟨n, Nat.le_refl _, rfl, fun j h1 h2 => by omega, (by go_simp), (by go_simp), (by (repeat first | with_reducible exact Below.refl _ _ | (with_reducible refine Below.alloc ?_ ?_ _; rotate_left; exact (by first | omega | (simp; done)))))⟩
  case round =>
   obtain ⟨k, hk, hi, hd, t0, t1, hB⟩ := hrel
   rcases k with _ | k
   ·rw [show ((0 : Nat) : Int) - 1 = -1 by omega] at hi
    subst hi
    have hPQ := val_eq (P := P) (Q := Q) (by rw [LP.out, LQ.out]) (fun j hj => hd j (Nat.zero_le _) (by rw [← LP.out]; exact hj))
    have e : cmpA (val P) (val Q) = 0 := by rw [hPQ]; unfold cmpA; rw [if_neg (by omega), if_neg (by omega)]
    have HE := Lib.hid e
    clear e hPQ hd
    go_wp2
    go_ret
    exact ⟨by rw [HE.out]; rfl, hB⟩
   ·rw [show ((k + 1 : Nat) : Int) - 1 = k by omega] at hi
    subst hi
    obtain ⟨a, ao, rfl, _, ha, hcP⟩ := HI.out.2 (by omega)
    obtain ⟨b, bo, rfl, _, hb, hcQ⟩ := HJ.out.2 (by omega)
    have p0 := (hB.cell (p := ⟨a, ao + k, none⟩) ha).trans (hcP k (by omega))
    have q0 := (hB.cell (p := ⟨b, bo + k, none⟩) hb).trans (hcQ k (by omega))
    have gt := @val_gt P Q k HP.out.1 HQ.out.1 (by rw [LP.out, LQ.out]) (by rw [LP.out]; omega) (fun j h1 h2 => hd j (by omega) (by rw [← LP.out]; exact h2))
    have lt := @val_gt Q P k HQ.out.1 HP.out.1 (by rw [LP.out, LQ.out]) (by rw [LQ.out]; omega) (fun j h1 h2 => (hd j (by omega) (by rw [← LQ.out]; exact h2)).symm)
    have eqs : P.getD k 0 = Q.getD k 0 → ∀ j, k ≤ j → j < n → P.getD j 0 = Q.getD j 0 := fun he j h1 h2 => by
     rcases Nat.lt_or_ge k j with h3 | h3
     ·exact hd j h3 h2
     ·rw [show j = k by omega]; exact he
    clear hcP hcQ hd
    generalize P.getD k 0 = dp at *
    generalize Q.getD k 0 = dq at *
    have k0 : (0 : Int) ≤ k := by omega
    have k1 : (k : Int) < n := by omega
    rcases Int.lt_trichotomy dp dq with hh | hh | hh
    ·have e : cmpA (val P) (val Q) = -1 := by have := lt hh; unfold cmpA; rw [if_neg (by omega), if_pos this]
     have HE := Lib.hid e
     clear e gt lt eqs
     go_wp2_with fail
     go_quiet (fail)
     go_wp2_with fail
     go_quiet (fail)
     go_wp2
     go_ret
     exact ⟨by rw [HE.out]; rfl, by (repeat first | with_reducible assumption | with_reducible refine Below_drewN ?_ _)⟩
    ·subst hh
     have HE := Lib.hid (eqs rfl)
     clear gt lt eqs
     go_wp2_with fail
     go_quiet (fail)
     go_wp2_with fail
     go_quiet (fail)
     go_wp2
     go_roundw
     case rel => exact ⟨k, by omega, rfl, HE.out, (by go_simp), (by go_simp), (by (repeat first | with_reducible assumption | with_reducible refine Below_drewN ?_ _))⟩
     case measure => first | (simp [intOf]; done) | (simp [intOf]; omega)
    ·have e : cmpA (val P) (val Q) = 1 := by have := gt hh; unfold cmpA; rw [if_pos this]
     have HE := Lib.hid e
     clear e gt lt eqs
     go_wp2_with fail
     go_quiet (fail)
     go_wp2
     go_ret
     exact ⟨by rw [HE.out]; rfl, by (repeat first | with_reducible assumption | with_reducible refine Below_drewN ?_ _)⟩
 ·have e : cmpA (val P) (val Q) = 1 := by
   have := len_lt_val hQ hP (by rw [hI.1, hJ.1]; exact h)
   unfold cmpA; rw [if_pos this]
  rw [e]
  have b0 : ((n : Int) != m) = true := by rw [bne_iff_ne]; omega
  clear e hI hJ hP hQ
  go_enter Tryz.func142, Tryz.ntmps142
  go_wp2
  go_ret
  exact ⟨rfl, by (repeat first | with_reducible exact Below.refl _ _ | (with_reducible refine Below.alloc ?_ ?_ _; rotate_left; exact (by first | omega | (simp; done))))⟩
theorem larger_big (a b : Int) (u v : Value) (w : World) (hu : BigV w u a) (hv : BigV w v b) :
  Calls Tryz.prog 142 #[u, v] w (fun e w' => e = .returned (.int .i64 (cmpA (max a (-a)) (max b (-b)))) ∧ Below w.heap.size w w') := by
 obtain ⟨A, n, ca, P, rfl, h1, h2, h3, h4, h5⟩ := hu
 obtain ⟨B, m, cb, Q, rfl, k1, k2, k3, k4, k5⟩ := hv
 have := larger_any (decide (a < 0)) (decide (b < 0)) A B n m ca cb P Q w h1 k1 h3 k3 h4 k4
 rwa [h5, k5] at this
end
section
open Go.RowKit
def intL (z : Int) : Int × Bool := if max z (-z) < 1000000000000000000 then (z, true) else (0, false)
theorem drop_step (P : List Int) (k : Nat) (hk : k < P.length) : val (P.drop k) = P.getD k 0 + 10000 * val (P.drop (k + 1)) := by
 rw [List.drop_eq_getElem_cons hk, List.getD_eq_getElem?_getD, List.getElem?_eq_getElem hk]
 rfl
theorem drop_le {P : List Int} (hP : Digs P) (k : Nat) : 0 ≤ val (P.drop k) ∧ val (P.drop k) ≤ val P := by
 have h0 := val_bound (l := P.drop k) (fun x hx => hP x (List.mem_of_mem_drop hx))
 have h1 := val_bound (l := P.take k) (fun x hx => hP x (List.mem_of_mem_take hx))
 have e := val_append (P.take k) (P.drop k)
 rw [List.take_append_drop] at e
 have := Int.mul_le_mul_of_nonneg_right (pw_pos (P.take k).length) h0.1
 omega
set_option maxRecDepth 100000 in
set_option maxHeartbeats 8000000 in
theorem int_any (z : Int) (u : Value) (w : World) (h : BigV w u z) :
  Calls Tryz.prog 103 #[u] w (fun e w' => e = .returned (.tuple #[.int .i64 (intL z).1, .bool (intL z).2]) ∧ Below w.heap.size w w') := by
 have HU := Lib.hid (fun W (hb : Below w.heap.size w W) => h.below hb)
 obtain ⟨A, n, cap, P, rfl, h1, h2, h3, h4, h5⟩ := h
 have HI := Lib.hid h1
 have LP := Lib.hid h1.1
 have HP := Lib.hid h4
 have HV := Lib.hid h5
 clear h1 h4 h5
 obtain ⟨neg, hneg⟩ : ∃ b, decide (z < 0) = b := ⟨_, rfl⟩
 rw [hneg] at HU
 have HN := Lib.hid hneg
 rw [hneg]
 clear hneg
 by_cases hbig : max z (-z) < 1000000000000000000
 ·have e : intL z = (z, true) := by unfold intL; rw [if_pos hbig]
  rw [e]
  have hc : cmpA (max z (-z)) (max 1000000000000000000 (-1000000000000000000)) = -1 := by
   rw [show max (1000000000000000000 : Int) (-1000000000000000000) = 1000000000000000000 by omega]
   unfold cmpA; rw [if_neg (by omega), if_pos hbig]
  have HL := Lib.hid (fun W u v hu hv => (show Calls Tryz.prog 142 #[u, v] W (fun e w' => e = .returned (.int .i64 (-1)) ∧ Below W.heap.size W w') by have := larger_big z 1000000000000000000 u v W hu hv; rwa [hc] at this))
  have hb18 : val P < 1000000000000000000 := by rw [HV.out]; exact hbig
  have HB := Lib.hid hb18
  clear e hc hbig hb18
  go_enter Tryz.func103, Tryz.ntmps103
  go_upto_region 1 with fail
  go_cut [9] (fun s9 wx => s9 = .bool false ∧ wx.cell? ⟨w.heap.size, 0, none⟩ = some (.bool neg) ∧ wx.cell? ⟨w.heap.size, 1, none⟩ = some (.slice A n cap) ∧ Below w.heap.size w wx)
  case first =>
   have HS : Hid (∀ w' : World, Reg (w.heap.size + 1) (w.alloc (.cells #[.bool neg, .slice A n cap] 158)) w' → (Reg (w.heap.size + 1) (w.alloc (.cells #[.bool neg, .slice A n cap] 158)) w' ∧ w'.cell? ⟨w.heap.size, 0, none⟩ = some (.bool neg) ∧ w'.cell? ⟨w.heap.size, 1, none⟩ = some (.slice A n cap))) := (fun w' h => by (have hc := h.cells; have hs := h.some; have hf := h.frozen; refine ⟨h, ?_⟩; (try simp only [World.size_alloc, World.size_setCell, size_drew, size_drewN] at hc hs hf); first | (simp (disch := omega) only [hc, hs, hf, cur_iff]; (try go_simp); done) | (simp (disch := first | omega | (simp; done)) only [hc, hs, hf, cur_iff]; (try go_simp); done) | (simp (maxDischargeDepth := 4) [hc, hs, hf, cur_iff, go_sem]; done) | (go_simp; done) | (simp (maxDischargeDepth := 4) [hc, hs, hf, cur_iff, go_sem]; go_simp))); go_region_held3 (fun w' => Reg (w.heap.size + 1) (w.alloc (.cells #[.bool neg, .slice A n cap] 158)) w' ∧ w'.cell? ⟨w.heap.size, 0, none⟩ = some (.bool neg) ∧ w'.cell? ⟨w.heap.size, 1, none⟩ = some (.slice A n cap)) (exact HS.out _ (by (repeat first | with_reducible exact Reg.refl _ _ | with_reducible exact (‹Reg _ _ _ ∧ _›).1 | with_reducible refine Reg.drew ?_ | (with_reducible apply Reg.call; rotate_left; with_reducible assumption)))) (first | (go_at_call 105; refine (of_pos 1000000000000000000 _ (by omega) (by omega)).mono ?_; rintro e w1 ⟨v1, rfl, hv1, hb⟩; (with_reducible have hk := Nat.lt_of_lt_of_le (size_alloc_lt _ _) hb.size); (try simp only [World.size_alloc, World.size_setCell, size_drew, size_drewN] at hk); obtain ⟨hc, hf⟩ := bcell hb; have hs := hb.size; (try simp only [World.size_alloc, World.size_setCell, size_drew, size_drewN] at hs)) | (go_at_call 142; refine (HL.out _ _ _ (HU.out _ (Reg.out (‹Reg _ _ _ ∧ _›).1 (by (repeat first | with_reducible exact Below.refl _ _ | (with_reducible refine Below.alloc ?_ ?_ _; rotate_left; exact (by omega)))) (by omega))) hv1).mono ?_; rintro e w1 ⟨rfl, hb⟩; (with_reducible have hk := Nat.lt_of_lt_of_le hk hb.size); (try simp only [World.size_alloc, World.size_setCell, size_drew, size_drewN] at hk); obtain ⟨hc, hf⟩ := bcell hb; have hs := hb.size; (try simp only [World.size_alloc, World.size_setCell, size_drew, size_drewN] at hs)))
   all_goals go_wp2_with fail
   all_goals go_meet
   all_goals
    have hH := ‹Reg _ _ _ ∧ _›
    exact ⟨rfl, hH.2.1, hH.2.2, (Reg.out (‹Reg _ _ _ ∧ _›).1 (by (repeat first | with_reducible exact Below.refl _ _ | (with_reducible refine Below.alloc ?_ ?_ _; rotate_left; exact (by omega)))) (by omega))⟩
  case rest =>
   obtain ⟨rfl, t0, t1, hB⟩ := hcut
   go_wp2_with fail
   go_loopw [4, 5] (fun s i wr => ∃ k : Nat, k ≤ n ∧ i = .int .i64 ((k : Int) - 1) ∧ s = .int .i64 (val (P.drop k)) ∧ wr.cell? ⟨w.heap.size, 0, none⟩ = some (.bool neg) ∧ wr.cell? ⟨w.heap.size, 1, none⟩ = some (.slice A n cap) ∧ Below w.heap.size w wr) (fun _ i _ => (intOf i + 1).toNat)
   case atStart => exact ⟨n, Nat.le_refl _, rfl, (by rw [List.drop_of_length_le (by rw [LP.out]; exact Nat.le_refl _)]; rfl), t0, t1, hB⟩
   case round =>
    clear t0 t1 hB
    obtain ⟨k, hk, hi, hs, t0, t1, hB⟩ := hrel
    rcases k with _ | k
    ·rw [show ((0 : Nat) : Int) - 1 = -1 by omega] at hi
     rw [List.drop_zero, HV.out] at hs
     subst hi hs
     cases neg
     ·have hz : max z (-z) = z := by have := HN.out; simp at this; omega
      rw [hz]
      have HZ := Lib.hid hz
      clear hz
      go_wp2
      go_ret2
      exact ⟨rfl, hB⟩
     ·have hz : max z (-z) = -z := by have := HN.out; simp at this; omega
      have hb := HB.out
      rw [HV.out, hz] at hb
      have hz0 : z < 0 := by have := HN.out; simpa using this
      rw [hz]
      have HZ := Lib.hid hz
      clear hz
      go_wp2
      go_ret2
      exact ⟨by simp, hB⟩
    ·rw [show ((k + 1 : Nat) : Int) - 1 = k by omega] at hi
     subst hi hs
     obtain ⟨a, ao, rfl, _, ha, hcP⟩ := HI.out.2 (by omega)
     have p0 := (hB.cell (p := ⟨a, ao + k, none⟩) ha).trans (hcP k (by omega))
     have hd := drop_step P k (by rw [LP.out]; omega)
     have d1 := drop_le HP.out.1 (k + 1)
     have d0 := drop_le HP.out.1 k
     have hb := HB.out
     have dg := digs_getD HP.out.1 k
     clear hcP
     generalize P.getD k 0 = dp at *
     generalize val (P.drop (k + 1)) = r at *
     have HD := Lib.hid hd
     have q1 : 10000 * r + dp < 1000000000000000000 := by omega
     obtain ⟨d2, d3⟩ := d1
     obtain ⟨g1, g2⟩ := dg
     have k0 : (0 : Int) ≤ k := by omega
     have k1 : (k : Int) < n := by omega
     clear hd d0 hb
     go_wp2
     go_roundw
     case rel => exact ⟨k, by omega, rfl, by rw [HD.out]; go_num, t0, t1, hB⟩
     case measure => first | (simp [intOf]; done) | (simp [intOf]; omega)
 ·have e : intL z = (0, false) := by unfold intL; rw [if_neg hbig]
  rw [e]
  have hc : 0 ≤ cmpA (max z (-z)) (max 1000000000000000000 (-1000000000000000000)) := by
   rw [show max (1000000000000000000 : Int) (-1000000000000000000) = 1000000000000000000 by omega]
   unfold cmpA
   (repeat' split) <;> omega
  obtain ⟨c, hce⟩ : ∃ c, cmpA (max z (-z)) (max 1000000000000000000 (-1000000000000000000)) = c := ⟨_, rfl⟩
  rw [hce] at hc
  have HL := Lib.hid (fun W u v hu hv => (show Calls Tryz.prog 142 #[u, v] W (fun e w' => e = .returned (.int .i64 c) ∧ Below W.heap.size W w') by have := larger_big z 1000000000000000000 u v W hu hv; rwa [hce] at this))
  clear e hce hbig
  go_enter Tryz.func103, Tryz.ntmps103
  go_upto_region 1 with fail
  go_cut [9] (fun s9 wx => s9 = .bool true ∧ Below w.heap.size w wx)
  case first =>
   have HS : Hid (∀ w' : World, Reg (w.heap.size + 1) (w.alloc (.cells #[.bool neg, .slice A n cap] 158)) w' → (Reg (w.heap.size + 1) (w.alloc (.cells #[.bool neg, .slice A n cap] 158)) w' ∧ w'.cell? ⟨w.heap.size, 0, none⟩ = some (.bool neg) ∧ w'.cell? ⟨w.heap.size, 1, none⟩ = some (.slice A n cap))) := (fun w' h => by (have hc := h.cells; have hs := h.some; have hf := h.frozen; refine ⟨h, ?_⟩; (try simp only [World.size_alloc, World.size_setCell, size_drew, size_drewN] at hc hs hf); first | (simp (disch := omega) only [hc, hs, hf, cur_iff]; (try go_simp); done) | (simp (disch := first | omega | (simp; done)) only [hc, hs, hf, cur_iff]; (try go_simp); done) | (simp (maxDischargeDepth := 4) [hc, hs, hf, cur_iff, go_sem]; done) | (go_simp; done) | (simp (maxDischargeDepth := 4) [hc, hs, hf, cur_iff, go_sem]; go_simp))); go_region_held3 (fun w' => Reg (w.heap.size + 1) (w.alloc (.cells #[.bool neg, .slice A n cap] 158)) w' ∧ w'.cell? ⟨w.heap.size, 0, none⟩ = some (.bool neg) ∧ w'.cell? ⟨w.heap.size, 1, none⟩ = some (.slice A n cap)) (exact HS.out _ (by (repeat first | with_reducible exact Reg.refl _ _ | with_reducible exact (‹Reg _ _ _ ∧ _›).1 | with_reducible refine Reg.drew ?_ | (with_reducible apply Reg.call; rotate_left; with_reducible assumption)))) (first | (go_at_call 105; refine (of_pos 1000000000000000000 _ (by omega) (by omega)).mono ?_; rintro e w1 ⟨v1, rfl, hv1, hb⟩; (with_reducible have hk := Nat.lt_of_lt_of_le (size_alloc_lt _ _) hb.size); (try simp only [World.size_alloc, World.size_setCell, size_drew, size_drewN] at hk); obtain ⟨hc, hf⟩ := bcell hb; have hs := hb.size; (try simp only [World.size_alloc, World.size_setCell, size_drew, size_drewN] at hs)) | (go_at_call 142; refine (HL.out _ _ _ (HU.out _ (Reg.out (‹Reg _ _ _ ∧ _›).1 (by (repeat first | with_reducible exact Below.refl _ _ | (with_reducible refine Below.alloc ?_ ?_ _; rotate_left; exact (by omega)))) (by omega))) hv1).mono ?_; rintro e w1 ⟨rfl, hb⟩; (with_reducible have hk := Nat.lt_of_lt_of_le hk hb.size); (try simp only [World.size_alloc, World.size_setCell, size_drew, size_drewN] at hk); obtain ⟨hc, hf⟩ := bcell hb; have hs := hb.size; (try simp only [World.size_alloc, World.size_setCell, size_drew, size_drewN] at hs)))
   all_goals go_wp2_with fail
   all_goals go_meet
   all_goals
    have hH := ‹Reg _ _ _ ∧ _›
    exact ⟨by simp, (Reg.out (‹Reg _ _ _ ∧ _›).1 (by (repeat first | with_reducible exact Below.refl _ _ | (with_reducible refine Below.alloc ?_ ?_ _; rotate_left; exact (by omega)))) (by omega))⟩
  case rest =>
   obtain ⟨rfl, hB⟩ := hcut
   go_wp2
   go_ret2
   exact ⟨rfl, hB⟩
end
section
open Go.RowKit
end
section
open Go.RowKit
theorem tmod_neg (s : Int) (h : s < 0) : s.tmod 2 = -((-s) % 2) := by
 have e : s = -(-s) := by omega
 rw [e, Int.neg_tmod, Int.neg_neg, Int.tmod_eq_emod_of_nonneg (by omega)]
theorem tdiv_neg (s : Int) (h : s < 0) : s.tdiv 2 = -((-s) / 2) := by
 have e : s = -(-s) := by omega
 rw [e, Int.neg_tdiv, Int.neg_neg, Int.tdiv_eq_ediv_of_nonneg (by omega)]
end
section
def Fit (z : Int) : Prop := -10000000000000000000000000000000000 ≤ z ∧ z ≤ 10000000000000000000000000000000000
def flo (x d : Int) : Int := if 0 < d then x / d else (-x) / (-d)
def cei (x d : Int) : Int := -(flo (-x) d)
theorem neg_quo (Z m : Int) (hm : 0 < m) : (Z % m = 0 ∧ (-Z) / m = -(Z / m)) ∨ (0 < Z % m ∧ (-Z) / m = -(Z / m + 1)) := by
 have h1 := Int.emod_add_mul_ediv Z m
 have h2 := Int.emod_nonneg Z (show m ≠ 0 by omega)
 have h3 := Int.emod_lt_of_pos Z hm
 generalize Z / m = q at *
 generalize Z % m = r at *
 by_cases h : r = 0
 ·left
  refine ⟨h, ((Int.ediv_emod_unique hm).2 (?_ : (0 : Int) + m * -q = -Z ∧ 0 ≤ (0 : Int) ∧ (0 : Int) < m)).1⟩
  rw [Int.mul_neg]
  omega
 ·right
  refine ⟨by omega, ((Int.ediv_emod_unique hm).2 (?_ : (m - r) + m * -(q + 1) = -Z ∧ 0 ≤ m - r ∧ m - r < m)).1⟩
  rw [Int.mul_neg, Int.mul_add]
  omega
end
section
open Go.RowKit
end
section
open Go.RowKit
end
section
open Go.RowKit
end
section
open Go.RowKit
end
section
open Go.RowKit
theorem Fit.min {x y : Int} (hx : Fit x) (hy : Fit y) : Fit (Min.min x y) := by unfold Fit at *; omega
theorem Fit.max {x y : Int} (hx : Fit x) (hy : Fit y) : Fit (Max.max x y) := by unfold Fit at *; omega
end
section
open Go.RowKit Go.Shelf
end
end Go.Proofs.YthggkidiidnaoaaGreatDoor
