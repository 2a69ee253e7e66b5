import Derived.Test.YtapldonpflgnfaaGreatDoorLAA
import Derived.Test.YtapldonpflgnfaaGreatDoorLAB
import Derived.Test.YtapldonpflgnfaaGreatDoorLAC
import Derived.Deep.QuietTactic
import Derived.BigQuiet
import Derived.Deep.RegionHeld3
import Derived.Deep.DeepCutAuto
import Derived.Lib.Hide
import Derived.Laws.MathBits
import Derived.Laws.Externs
import Derived.Shelf.Bits.Mul64
import Derived.Shelf.Abstract
namespace Go.Proofs.YtapldonpflgnfaaGreatDoor
set_option linter.unusedVariables false
set_option linter.unusedSimpArgs false
section
open Go.RowKit
theorem abs_mul' (a b : Int) : max (a * b) (-(a * b)) = max a (-a) * max b (-b) := by
 rcases Int.lt_or_le a 0 with h | h <;> rcases Int.lt_or_le b 0 with k | k
 ·have := Int.mul_nonneg_of_nonpos_of_nonpos (show a ≤ 0 by omega) (show b ≤ 0 by omega)
  rw [show max a (-a) = -a by omega, show max b (-b) = -b by omega, Int.neg_mul_neg]
  omega
 ·have := Int.mul_nonneg (show 0 ≤ -a by omega) k
  rw [Int.neg_mul] at this
  rw [show max a (-a) = -a by omega, show max b (-b) = b by omega, Int.neg_mul]
  omega
 ·have := Int.mul_nonneg h (show 0 ≤ -b by omega)
  rw [Int.mul_neg] at this
  rw [show max a (-a) = a by omega, show max b (-b) = -b by omega, Int.mul_neg]
  omega
 ·have := Int.mul_nonneg h k
  rw [show max a (-a) = a by omega, show max b (-b) = b by omega]
  omega
theorem sign_mul {a b : Int} (h : a * b ≠ 0) : (decide (a < 0) != decide (b < 0)) = decide (a * b < 0) := by
 rcases Int.lt_trichotomy a 0 with ha | ha | ha <;> rcases Int.lt_trichotomy b 0 with hb | hb | hb
 ·have := Int.mul_pos_of_neg_of_neg ha hb
  rw [decide_eq_true ha, decide_eq_true hb, decide_eq_false (by omega)]; rfl
 ·subst hb; simp at h
 ·have := Int.mul_neg_of_neg_of_pos ha hb
  rw [decide_eq_true ha, decide_eq_false (by omega), decide_eq_true this]; rfl
 ·subst ha; simp at h
 ·subst ha; simp at h
 ·subst ha; simp at h
 ·have := Int.mul_neg_of_pos_of_neg ha hb
  rw [decide_eq_false (by omega), decide_eq_true hb, decide_eq_true this]; rfl
 ·subst hb; simp at h
 ·have := Int.mul_pos ha hb
  rw [decide_eq_false (by omega), decide_eq_false (by omega), decide_eq_false (by omega)]; rfl
theorem times_big (a b : Int) (u v : Value) (w : World) (hu : BigV w u a) (hv : BigV w v b) (ha : max a (-a) < pw 16) (hb : max b (-b) < pw 16) :
  Calls Tryz.prog 153 #[u, v] w (RetBig (a * b) w) := by
 obtain ⟨A, n, ca, P, rfl, h1, h2, h3, h4, h5⟩ := hu
 obtain ⟨B, m, cb, Q, rfl, k1, k2, k3, k4, k5⟩ := hv
 have ln := len_le_of_val h4 (n := 16) (by rw [h5]; exact ha)
 have lm := len_le_of_val k4 (n := 16) (by rw [k5]; exact hb)
 rw [h1.1] at ln
 rw [k1.1] at lm
 refine (times_any _ _ A B n m ca cb P Q w h1 k1 ln lm h4.1 k4.1).mono ?_
 rintro e w' ⟨O, e1, e2, e3, A', k, cap, rfl, g1, g2, g3, g4, g5, g6⟩
 have hv : val (O.take k) = max (a * b) (-(a * b)) := by rw [g5, e1, h5, k5, abs_mul']
 refine ⟨_, rfl, ⟨A', k, cap, O.take k, ?_, g1.mono (Nat.zero_le _), g2, by omega, g4, hv⟩, g6⟩
 have hk : 0 < k ↔ a * b ≠ 0 := by
  have h0 := canon_nil g4
  have hl := g1.1
  constructor
  ·intro hk h
   rw [hv, h] at h0
   have := h0.1 (by rfl)
   rw [this] at hl
   simp at hl
   omega
  ·intro h
   rcases Nat.eq_zero_or_pos k with hk | hk
   ·subst hk
    rw [hv] at h0
    have := h0.2 (by simp)
    omega
   ·exact hk
 by_cases h : a * b = 0
 ·have : ¬0 < k := fun h' => (hk.1 h') h
  rw [decide_eq_false this, Bool.and_false, decide_eq_false (by omega)]
 ·rw [decide_eq_true (hk.2 h), Bool.and_true, sign_mul h]
theorem val_gt {P Q : List Int} {k : Nat} (hP : Digs P) (hQ : Digs Q) (hl : P.length = Q.length) (hk : k < P.length) (hd : ∀ j, k < j → j < P.length → P.getD j 0 = Q.getD j 0) (hg : Q.getD k 0 < P.getD k 0) : val Q < val P := by
 have e : P.drop (k + 1) = Q.drop (k + 1) := by
  apply List.ext_getElem?
  intro i
  rw [List.getElem?_drop, List.getElem?_drop]
  by_cases hi : k + 1 + i < P.length
  ·have := hd (k + 1 + i) (by omega) hi
   rw [List.getD_eq_getElem?_getD, List.getD_eq_getElem?_getD, List.getElem?_eq_getElem hi, List.getElem?_eq_getElem (by omega)] at this
   rw [List.getElem?_eq_getElem hi, List.getElem?_eq_getElem (by omega)]
   simpa using this
  ·rw [List.getElem?_eq_none (by omega), List.getElem?_eq_none (by omega)]
 have a1 := val_append (P.take (k + 1)) (P.drop (k + 1))
 have a2 := val_append (Q.take (k + 1)) (Q.drop (k + 1))
 rw [List.take_append_drop] at a1 a2
 rw [List.length_take, Nat.min_eq_left (by omega)] at a1 a2
 rw [val_take_succ P k hk] at a1
 rw [val_take_succ Q k (by omega), ← e] at a2
 have tb : ∀ R : List Int, Digs R → k < R.length → 0 ≤ val (R.take k) ∧ val (R.take k) < pw k := fun R hR hkR => by
  have := val_bound (l := R.take k) (fun x hx => hR x (List.mem_of_mem_take hx))
  rwa [List.length_take, Nat.min_eq_left (by omega)] at this
 have b1 := tb P hP hk
 have b2 := tb Q hQ (by omega)
 have pp := pw_pos k
 have := Int.mul_le_mul_of_nonneg_left (show Q.getD k 0 + 1 ≤ P.getD k 0 by omega) (show 0 ≤ pw k by omega)
 rw [Int.mul_add, Int.mul_one] at this
 omega
theorem val_eq {P Q : List Int} (hl : P.length = Q.length) (hd : ∀ j, j < P.length → P.getD j 0 = Q.getD j 0) : P = Q := by
 apply List.ext_getElem?
 intro i
 by_cases hi : i < P.length
 ·have := hd i hi
  rw [List.getD_eq_getElem?_getD, List.getD_eq_getElem?_getD, List.getElem?_eq_getElem hi, List.getElem?_eq_getElem (by omega)] at this
  rw [List.getElem?_eq_getElem hi, List.getElem?_eq_getElem (by omega)]
  simpa using this
 ·rw [List.getElem?_eq_none (by omega), List.getElem?_eq_none (by omega)]
theorem len_lt_val {P Q : List Int} (hP : Canon P) (hQ : Canon Q) (h : P.length < Q.length) : val P < val Q := by
 have h1 := val_bound hP.1
 have hne : Q ≠ [] := by intro e; rw [e] at h; simp at h
 have h2 := canon_low hQ hne
 have h3 := pw_mono (show P.length ≤ Q.length - 1 by omega)
 omega
def cmpA (x y : Int) : Int := if y < x then 1 else if x < y then -1 else 0
set_option maxRecDepth 100000 in
set_option maxHeartbeats 8000000 in
theorem larger_any (na nb : Bool) (A B : Option Addr) (n m ca cb : Nat) (P Q : List Int) (w : World) (hI : IsI w 0 A n P) (hJ : IsI w 0 B m Q) (hn : n ≤ 64) (hm : m ≤ 64) (hP : Canon P) (hQ : Canon Q) :
  Calls Tryz.prog 150 #[.agg #[.bool na, .slice A n ca], .agg #[.bool nb, .slice B m cb]] w (fun e w' => e = .returned (.int .i64 (cmpA (val P) (val Q))) ∧ Below w.heap.size w w') := by
 rcases Nat.lt_trichotomy n m with h | h | h
 ·have e : cmpA (val P) (val Q) = -1 := by
   have := len_lt_val hP hQ (by rw [hI.1, hJ.1]; exact h)
   unfold cmpA; rw [if_neg (by omega), if_pos this]
  rw [e]
  have b0 : ((n : Int) != m) = true := by rw [bne_iff_ne]; omega
  clear e hI hJ hP hQ
  go_enter Tryz.func150, Tryz.ntmps150
  go_wp2
  go_ret
  exact ⟨rfl, by (repeat first | with_reducible exact Below.refl _ _ | (with_reducible refine Below.alloc ?_ ?_ _; rotate_left; exact (by first | omega | (simp; done))))⟩
 ·subst h
  have HI := Lib.hid hI
  have HJ := Lib.hid hJ
  have LP := Lib.hid hI.1
  have LQ := Lib.hid hJ.1
  have HP := Lib.hid hP
  have HQ := Lib.hid hQ
  clear hI hJ hP hQ
  go_enter Tryz.func150, Tryz.ntmps150
  go_wp2_with fail
  go_loopw [5] (fun i wr => ∃ k : Nat, k ≤ n ∧ i = .int .i64 ((k : Int) - 1) ∧ (∀ j, k ≤ j → j < n → P.getD j 0 = Q.getD j 0) ∧ wr.cell? ⟨w.heap.size, 1, none⟩ = some (.slice A n ca) ∧ wr.cell? ⟨w.heap.size + 1, 1, none⟩ = some (.slice B n cb) ∧ Below w.heap.size w wr) (fun i _ => (intOf i + 1).toNat)
  case atStart => exact ⟨n, Nat.le_refl _, rfl, fun j h1 h2 => by omega, (by go_simp), (by go_simp), (by (repeat first | with_reducible exact Below.refl _ _ | (with_reducible refine Below.alloc ?_ ?_ _; rotate_left; exact (by first | omega | (simp; done)))))⟩
  case round =>
   obtain ⟨k, hk, hi, hd, t0, t1, hB⟩ := hrel
   rcases k with _ | k
   ·rw [show ((0 : Nat) : Int) - 1 = -1 by omega] at hi
    subst hi
    have hPQ := val_eq (P := P) (Q := Q) (by rw [LP.out, LQ.out]) (fun j hj => hd j (Nat.zero_le _) (by rw [← LP.out]; exact hj))
    have e : cmpA (val P) (val Q) = 0 := by rw [hPQ]; unfold cmpA; rw [if_neg (by omega), if_neg (by omega)]
    have HE := Lib.hid e
    clear e hPQ hd
    go_wp2
    go_ret
    exact ⟨by rw [HE.out]; rfl, hB⟩
   ·rw [show ((k + 1 : Nat) : Int) - 1 = k by omega] at hi
    subst hi
    obtain ⟨a, ao, rfl, _, ha, hcP⟩ := HI.out.2 (by omega)
    obtain ⟨b, bo, rfl, _, hb, hcQ⟩ := HJ.out.2 (by omega)
    have p0 := (hB.cell (p := ⟨a, ao + k, none⟩) ha).trans (hcP k (by omega))
    have q0 := (hB.cell (p := ⟨b, bo + k, none⟩) hb).trans (hcQ k (by omega))
    have gt := @val_gt P Q k HP.out.1 HQ.out.1 (by rw [LP.out, LQ.out]) (by rw [LP.out]; omega) (fun j h1 h2 => hd j (by omega) (by rw [← LP.out]; exact h2))
    have lt := @val_gt Q P k HQ.out.1 HP.out.1 (by rw [LP.out, LQ.out]) (by rw [LQ.out]; omega) (fun j h1 h2 => (hd j (by omega) (by rw [← LQ.out]; exact h2)).symm)
    have eqs : P.getD k 0 = Q.getD k 0 → ∀ j, k ≤ j → j < n → P.getD j 0 = Q.getD j 0 := fun he j h1 h2 => by
     rcases Nat.lt_or_ge k j with h3 | h3
     ·exact hd j h3 h2
     ·rw [show j = k by omega]; exact he
    clear hcP hcQ hd
    generalize P.getD k 0 = dp at *
    generalize Q.getD k 0 = dq at *
    have k0 : (0 : Int) ≤ k := by omega
    have k1 : (k : Int) < n := by omega
    rcases Int.lt_trichotomy dp dq with hh | hh | hh
    ·have e : cmpA (val P) (val Q) = -1 := by have := lt hh; unfold cmpA; rw [if_neg (by omega), if_pos this]
     have HE := Lib.hid e
     clear e gt lt eqs
     go_wp2_with fail
     go_quiet (fail)
     go_wp2_with fail
     go_quiet (fail)
     go_wp2
     go_ret
     exact ⟨by rw [HE.out]; rfl, by (repeat first | with_reducible assumption | with_reducible refine Below_drewN ?_ _)⟩
    ·subst hh
     have HE := Lib.hid (eqs rfl)
     clear gt lt eqs
     go_wp2_with fail
     go_quiet (fail)
     go_wp2_with fail
     go_quiet (fail)
     go_wp2
     go_roundw
     case rel => exact ⟨k, by omega, rfl, HE.out, (by go_simp), (by go_simp), (by (repeat first | with_reducible assumption | with_reducible refine Below_drewN ?_ _))⟩
     case measure => first | (simp [intOf]; done) | (simp [intOf]; omega)
    ·have e : cmpA (val P) (val Q) = 1 := by have := gt hh; unfold cmpA; rw [if_pos this]
     have HE := Lib.hid e
     clear e gt lt eqs
     go_wp2_with fail
     go_quiet (fail)
     go_wp2
     go_ret
     exact ⟨by rw [HE.out]; rfl, by (repeat first | with_reducible assumption | with_reducible refine Below_drewN ?_ _)⟩
 ·have e : cmpA (val P) (val Q) = 1 := by
   have := len_lt_val hQ hP (by rw [hI.1, hJ.1]; exact h)
   unfold cmpA; rw [if_pos this]
  rw [e]
  have b0 : ((n : Int) != m) = true := by rw [bne_iff_ne]; omega
  clear e hI hJ hP hQ
  go_enter Tryz.func150, Tryz.ntmps150
  go_wp2
  go_ret
  exact ⟨rfl, by (repeat first | with_reducible exact Below.refl _ _ | (with_reducible refine Below.alloc ?_ ?_ _; rotate_left; exact (by first | omega | (simp; done))))⟩
theorem larger_big (a b : Int) (u v : Value) (w : World) (hu : BigV w u a) (hv : BigV w v b) :
  Calls Tryz.prog 150 #[u, v] w (fun e w' => e = .returned (.int .i64 (cmpA (max a (-a)) (max b (-b)))) ∧ Below w.heap.size w w') := by
 obtain ⟨A, n, ca, P, rfl, h1, h2, h3, h4, h5⟩ := hu
 obtain ⟨B, m, cb, Q, rfl, k1, k2, k3, k4, k5⟩ := hv
 have := larger_any (decide (a < 0)) (decide (b < 0)) A B n m ca cb P Q w h1 k1 h3 k3 h4 k4
 rwa [h5, k5] at this
end
section
open Go.RowKit
def intL (z : Int) : Int × Bool := if max z (-z) < 1000000000000000000 then (z, true) else (0, false)
theorem drop_step (P : List Int) (k : Nat) (hk : k < P.length) : val (P.drop k) = P.getD k 0 + 10000 * val (P.drop (k + 1)) := by
 rw [List.drop_eq_getElem_cons hk, List.getD_eq_getElem?_getD, List.getElem?_eq_getElem hk]
 rfl
theorem drop_le {P : List Int} (hP : Digs P) (k : Nat) : 0 ≤ val (P.drop k) ∧ val (P.drop k) ≤ val P := by
 have h0 := val_bound (l := P.drop k) (fun x hx => hP x (List.mem_of_mem_drop hx))
 have h1 := val_bound (l := P.take k) (fun x hx => hP x (List.mem_of_mem_take hx))
 have e := val_append (P.take k) (P.drop k)
 rw [List.take_append_drop] at e
 have := Int.mul_le_mul_of_nonneg_right (pw_pos (P.take k).length) h0.1
 omega
set_option maxRecDepth 100000 in
set_option maxHeartbeats 8000000 in
theorem int_any (z : Int) (u : Value) (w : World) (h : BigV w u z) :
  Calls Tryz.prog 119 #[u] w (fun e w' => e = .returned (.tuple #[.int .i64 (intL z).1, .bool (intL z).2]) ∧ Below w.heap.size w w') := by
 have HU := Lib.hid (fun W (hb : Below w.heap.size w W) => h.below hb)
 obtain ⟨A, n, cap, P, rfl, h1, h2, h3, h4, h5⟩ := h
 have HI := Lib.hid h1
 have LP := Lib.hid h1.1
 have HP := Lib.hid h4
 have HV := Lib.hid h5
 clear h1 h4 h5
 obtain ⟨neg, hneg⟩ : ∃ b, decide (z < 0) = b := ⟨_, rfl⟩
 rw [hneg] at HU
 have HN := Lib.hid hneg
 rw [hneg]
 clear hneg
 by_cases hbig : max z (-z) < 1000000000000000000
 ·have e : intL z = (z, true) := by unfold intL; rw [if_pos hbig]
  rw [e]
  have hc : cmpA (max z (-z)) (max 1000000000000000000 (-1000000000000000000)) = -1 := by
   rw [show max (1000000000000000000 : Int) (-1000000000000000000) = 1000000000000000000 by omega]
   unfold cmpA; rw [if_neg (by omega), if_pos hbig]
  have HL := Lib.hid (fun W u v hu hv => (show Calls Tryz.prog 150 #[u, v] W (fun e w' => e = .returned (.int .i64 (-1)) ∧ Below W.heap.size W w') by have := larger_big z 1000000000000000000 u v W hu hv; rwa [hc] at this))
  have hb18 : val P < 1000000000000000000 := by rw [HV.out]; exact hbig
  have HB := Lib.hid hb18
  clear e hc hbig hb18
  go_enter Tryz.func119, Tryz.ntmps119
  go_upto_region 1 with fail
  go_cut [9] (fun s9 wx => s9 = .bool false ∧ wx.cell? ⟨w.heap.size, 0, none⟩ = some (.bool neg) ∧ wx.cell? ⟨w.heap.size, 1, none⟩ = some (.slice A n cap) ∧ Below w.heap.size w wx)
  case first =>
   have HS : Hid (∀ w' : World, Reg (w.heap.size + 1) (w.alloc (.cells #[.bool neg, .slice A n cap] 165)) w' → (Reg (w.heap.size + 1) (w.alloc (.cells #[.bool neg, .slice A n cap] 165)) w' ∧ w'.cell? ⟨w.heap.size, 0, none⟩ = some (.bool neg) ∧ w'.cell? ⟨w.heap.size, 1, none⟩ = some (.slice A n cap))) := (fun w' h => by (have hc := h.cells; have hs := h.some; have hf := h.frozen; refine ⟨h, ?_⟩; (try simp only [World.size_alloc, World.size_setCell, size_drew, size_drewN] at hc hs hf); first | (simp (disch := omega) only [hc, hs, hf, cur_iff]; (try go_simp); done) | (simp (disch := first | omega | (simp; done)) only [hc, hs, hf, cur_iff]; (try go_simp); done) | (simp (maxDischargeDepth := 4) [hc, hs, hf, cur_iff, go_sem]; done) | (go_simp; done) | (simp (maxDischargeDepth := 4) [hc, hs, hf, cur_iff, go_sem]; go_simp))); go_region_held3 (fun w' => Reg (w.heap.size + 1) (w.alloc (.cells #[.bool neg, .slice A n cap] 165)) w' ∧ w'.cell? ⟨w.heap.size, 0, none⟩ = some (.bool neg) ∧ w'.cell? ⟨w.heap.size, 1, none⟩ = some (.slice A n cap)) (exact HS.out _ (by (repeat first | with_reducible exact Reg.refl _ _ | with_reducible exact (‹Reg _ _ _ ∧ _›).1 | with_reducible refine Reg.drew ?_ | (with_reducible apply Reg.call; rotate_left; with_reducible assumption)))) (first | (go_at_call 121; refine (of_pos 1000000000000000000 _ (by omega) (by omega)).mono ?_; rintro e w1 ⟨v1, rfl, hv1, hb⟩; (with_reducible have hk := Nat.lt_of_lt_of_le (size_alloc_lt _ _) hb.size); (try simp only [World.size_alloc, World.size_setCell, size_drew, size_drewN] at hk); obtain ⟨hc, hf⟩ := bcell hb; have hs := hb.size; (try simp only [World.size_alloc, World.size_setCell, size_drew, size_drewN] at hs)) | (go_at_call 150; refine (HL.out _ _ _ (HU.out _ (Reg.out (‹Reg _ _ _ ∧ _›).1 (by (repeat first | with_reducible exact Below.refl _ _ | (with_reducible refine Below.alloc ?_ ?_ _; rotate_left; exact (by omega)))) (by omega))) hv1).mono ?_; rintro e w1 ⟨rfl, hb⟩; (with_reducible have hk := Nat.lt_of_lt_of_le hk hb.size); (try simp only [World.size_alloc, World.size_setCell, size_drew, size_drewN] at hk); obtain ⟨hc, hf⟩ := bcell hb; have hs := hb.size; (try simp only [World.size_alloc, World.size_setCell, size_drew, size_drewN] at hs)))
   all_goals go_wp2_with fail
   all_goals go_meet
   all_goals
    have hH := ‹Reg _ _ _ ∧ _›
    exact ⟨rfl, hH.2.1, hH.2.2, (Reg.out (‹Reg _ _ _ ∧ _›).1 (by (repeat first | with_reducible exact Below.refl _ _ | (with_reducible refine Below.alloc ?_ ?_ _; rotate_left; exact (by omega)))) (by omega))⟩
  case rest =>
   obtain ⟨rfl, t0, t1, hB⟩ := hcut
   go_wp2_with fail
   go_loopw [4, 5] (fun s i wr => ∃ k : Nat, k ≤ n ∧ i = .int .i64 ((k : Int) - 1) ∧ s = .int .i64 (val (P.drop k)) ∧ wr.cell? ⟨w.heap.size, 0, none⟩ = some (.bool neg) ∧ wr.cell? ⟨w.heap.size, 1, none⟩ = some (.slice A n cap) ∧ Below w.heap.size w wr) (fun _ i _ => (intOf i + 1).toNat)
   case atStart => exact ⟨n, Nat.le_refl _, rfl, (by rw [List.drop_of_length_le (by rw [LP.out]; exact Nat.le_refl _)]; rfl), t0, t1, hB⟩
   case round =>
    clear t0 t1 hB
    obtain ⟨k, hk, hi, hs, t0, t1, hB⟩ := hrel
    rcases k with _ | k
    ·rw [show ((0 : Nat) : Int) - 1 = -1 by omega] at hi
     rw [List.drop_zero, HV.out] at hs
     subst hi hs
     cases neg
     ·have hz : max z (-z) = z := by have := HN.out; simp at this; omega
      rw [hz]
      have HZ := Lib.hid hz
      clear hz
      go_wp2
      go_ret2
      exact ⟨rfl, hB⟩
     ·have hz : max z (-z) = -z := by have := HN.out; simp at this; omega
      have hb := HB.out
      rw [HV.out, hz] at hb
      have hz0 : z < 0 := by have := HN.out; simpa using this
      rw [hz]
      have HZ := Lib.hid hz
      clear hz
      go_wp2
      go_ret2
      exact ⟨by simp, hB⟩
    ·rw [show ((k + 1 : Nat) : Int) - 1 = k by omega] at hi
     subst hi hs
     obtain ⟨a, ao, rfl, _, ha, hcP⟩ := HI.out.2 (by omega)
     have p0 := (hB.cell (p := ⟨a, ao + k, none⟩) ha).trans (hcP k (by omega))
     have hd := drop_step P k (by rw [LP.out]; omega)
     have d1 := drop_le HP.out.1 (k + 1)
     have d0 := drop_le HP.out.1 k
     have hb := HB.out
     have dg := digs_getD HP.out.1 k
     clear hcP
     generalize P.getD k 0 = dp at *
     generalize val (P.drop (k + 1)) = r at *
     have HD := Lib.hid hd
     have q1 : 10000 * r + dp < 1000000000000000000 := by omega
     obtain ⟨d2, d3⟩ := d1
     obtain ⟨g1, g2⟩ := dg
     have k0 : (0 : Int) ≤ k := by omega
     have k1 : (k : Int) < n := by omega
     clear hd d0 hb
     go_wp2
     go_roundw
     case rel => exact ⟨k, by omega, rfl, by rw [HD.out]; go_num, t0, t1, hB⟩
     case measure => first | (simp [intOf]; done) | (simp [intOf]; omega)
 ·have e : intL z = (0, false) := by unfold intL; rw [if_neg hbig]
  rw [e]
  have hc : 0 ≤ cmpA (max z (-z)) (max 1000000000000000000 (-1000000000000000000)) := by
   rw [show max (1000000000000000000 : Int) (-1000000000000000000) = 1000000000000000000 by omega]
   unfold cmpA
   (repeat' split) <;> omega
  obtain ⟨c, hce⟩ : ∃ c, cmpA (max z (-z)) (max 1000000000000000000 (-1000000000000000000)) = c := ⟨_, rfl⟩
  rw [hce] at hc
  have HL := Lib.hid (fun W u v hu hv => (show Calls Tryz.prog 150 #[u, v] W (fun e w' => e = .returned (.int .i64 c) ∧ Below W.heap.size W w') by have := larger_big z 1000000000000000000 u v W hu hv; rwa [hce] at this))
  clear e hce hbig
  go_enter Tryz.func119, Tryz.ntmps119
  go_upto_region 1 with fail
  go_cut [9] (fun s9 wx => s9 = .bool true ∧ Below w.heap.size w wx)
  case first =>
   have HS : Hid (∀ w' : World, Reg (w.heap.size + 1) (w.alloc (.cells #[.bool neg, .slice A n cap] 165)) w' → (Reg (w.heap.size + 1) (w.alloc (.cells #[.bool neg, .slice A n cap] 165)) w' ∧ w'.cell? ⟨w.heap.size, 0, none⟩ = some (.bool neg) ∧ w'.cell? ⟨w.heap.size, 1, none⟩ = some (.slice A n cap))) := (fun w' h => by (have hc := h.cells; have hs := h.some; have hf := h.frozen; refine ⟨h, ?_⟩; (try simp only [World.size_alloc, World.size_setCell, size_drew, size_drewN] at hc hs hf); first | (simp (disch := omega) only [hc, hs, hf, cur_iff]; (try go_simp); done) | (simp (disch := first | omega | (simp; done)) only [hc, hs, hf, cur_iff]; (try go_simp); done) | (simp (maxDischargeDepth := 4) [hc, hs, hf, cur_iff, go_sem]; done) | (go_simp; done) | (simp (maxDischargeDepth := 4) [hc, hs, hf, cur_iff, go_sem]; go_simp))); go_region_held3 (fun w' => Reg (w.heap.size + 1) (w.alloc (.cells #[.bool neg, .slice A n cap] 165)) w' ∧ w'.cell? ⟨w.heap.size, 0, none⟩ = some (.bool neg) ∧ w'.cell? ⟨w.heap.size, 1, none⟩ = some (.slice A n cap)) (exact HS.out _ (by (repeat first | with_reducible exact Reg.refl _ _ | with_reducible exact (‹Reg _ _ _ ∧ _›).1 | with_reducible refine Reg.drew ?_ | (with_reducible apply Reg.call; rotate_left; with_reducible assumption)))) (first | (go_at_call 121; refine (of_pos 1000000000000000000 _ (by omega) (by omega)).mono ?_; rintro e w1 ⟨v1, rfl, hv1, hb⟩; (with_reducible have hk := Nat.lt_of_lt_of_le (size_alloc_lt _ _) hb.size); (try simp only [World.size_alloc, World.size_setCell, size_drew, size_drewN] at hk); obtain ⟨hc, hf⟩ := bcell hb; have hs := hb.size; (try simp only [World.size_alloc, World.size_setCell, size_drew, size_drewN] at hs)) | (go_at_call 150; refine (HL.out _ _ _ (HU.out _ (Reg.out (‹Reg _ _ _ ∧ _›).1 (by (repeat first | with_reducible exact Below.refl _ _ | (with_reducible refine Below.alloc ?_ ?_ _; rotate_left; exact (by omega)))) (by omega))) hv1).mono ?_; rintro e w1 ⟨rfl, hb⟩; (with_reducible have hk := Nat.lt_of_lt_of_le hk hb.size); (try simp only [World.size_alloc, World.size_setCell, size_drew, size_drewN] at hk); obtain ⟨hc, hf⟩ := bcell hb; have hs := hb.size; (try simp only [World.size_alloc, World.size_setCell, size_drew, size_drewN] at hs)))
   all_goals go_wp2_with fail
   all_goals go_meet
   all_goals
    have hH := ‹Reg _ _ _ ∧ _›
    exact ⟨by simp, (Reg.out (‹Reg _ _ _ ∧ _›).1 (by (repeat first | with_reducible exact Below.refl _ _ | (with_reducible refine Below.alloc ?_ ?_ _; rotate_left; exact (by omega)))) (by omega))⟩
  case rest =>
   obtain ⟨rfl, hB⟩ := hcut
   go_wp2
   go_ret2
   exact ⟨rfl, hB⟩
end
section
open Go.RowKit
end
section
open Go.RowKit
theorem tmod_neg (s : Int) (h : s < 0) : s.tmod 2 = -((-s) % 2) := by
 have e : s = -(-s) := by omega
 rw [e, Int.neg_tmod, Int.neg_neg, Int.tmod_eq_emod_of_nonneg (by omega)]
theorem tdiv_neg (s : Int) (h : s < 0) : s.tdiv 2 = -((-s) / 2) := by
 have e : s = -(-s) := by omega
 rw [e, Int.neg_tdiv, Int.neg_neg, Int.tdiv_eq_ediv_of_nonneg (by omega)]
end
section
def Fit (z : Int) : Prop := -10000000000000000000000000000000000 ≤ z ∧ z ≤ 10000000000000000000000000000000000
def flo (x d : Int) : Int := if 0 < d then x / d else (-x) / (-d)
def cei (x d : Int) : Int := -(flo (-x) d)
theorem neg_quo (Z m : Int) (hm : 0 < m) : (Z % m = 0 ∧ (-Z) / m = -(Z / m)) ∨ (0 < Z % m ∧ (-Z) / m = -(Z / m + 1)) := by
 have h1 := Int.emod_add_mul_ediv Z m
 have h2 := Int.emod_nonneg Z (show m ≠ 0 by omega)
 have h3 := Int.emod_lt_of_pos Z hm
 generalize Z / m = q at *
 generalize Z % m = r at *
 by_cases h : r = 0
 ·left
  refine ⟨h, ((Int.ediv_emod_unique hm).2 (?_ : (0 : Int) + m * -q = -Z ∧ 0 ≤ (0 : Int) ∧ (0 : Int) < m)).1⟩
  rw [Int.mul_neg]
  omega
 ·right
  refine ⟨by omega, ((Int.ediv_emod_unique hm).2 (?_ : (m - r) + m * -(q + 1) = -Z ∧ 0 ≤ m - r ∧ m - r < m)).1⟩
  rw [Int.mul_neg, Int.mul_add]
  omega
end
section
open Go.RowKit
end
section
open Go.RowKit
end
section
open Go.RowKit
end
section
open Go.RowKit
end
section
open Go.RowKit
theorem Fit.min {x y : Int} (hx : Fit x) (hy : Fit y) : Fit (Min.min x y) := by unfold Fit at *; omega
theorem Fit.max {x y : Int} (hx : Fit x) (hy : Fit y) : Fit (Max.max x y) := by unfold Fit at *; omega
end
section
open Go.RowKit Go.Shelf
end
section
open Go.RowKit Go.Shelf
end
section
open Go.RowKit Go.Shelf
end
section
open Go.RowKit
def two (k : Nat) : Int := ((2 ^ k : Nat) : Int)
end
section
section
variable {a b c d a' b' c' d' : Int} (v1 : vld a b = true) (v2 : vld c d = true) (v3 : vld a' b' = true) (v4 : vld c' d' = true) (h1 : a' ≤ a) (h2 : b ≤ b') (h3 : c' ≤ c) (h4 : d ≤ d')
include v1 v2 v3 v4 h1 h2 h3 h4
end
end
section
set_option linter.unusedSectionVars false
theorem ediv_abs {x y k : Int} (h1 : -k ≤ x) (h2 : x ≤ k) (hk : 0 ≤ k) (hy : 0 < y) : -k ≤ x / y ∧ x / y ≤ k := by
 constructor
 ·rw [Int.le_ediv_iff_mul_le hy]
  have := Int.mul_le_mul_of_nonneg_left (show 1 ≤ y by omega) hk
  rw [Int.neg_mul]
  omega
 ·rcases Int.lt_or_le x 0 with h | h
  ·have := Int.ediv_neg_of_neg_of_pos h hy
   omega
  ·exact Int.le_trans (Int.ediv_le_self y h) h2
theorem flo_abs {x y k : Int} (h1 : -k ≤ x) (h2 : x ≤ k) (hk : 0 ≤ k) (hy : y ≠ 0) : -k ≤ flo x y ∧ flo x y ≤ k := by
 unfold flo
 by_cases h : 0 < y
 ·rw [if_pos h]; exact ediv_abs h1 h2 hk h
 ·rw [if_neg h]; exact ediv_abs (by omega) (by omega) hk (by omega)
theorem cei_abs {x y k : Int} (h1 : -k ≤ x) (h2 : x ≤ k) (hk : 0 ≤ k) (hy : y ≠ 0) : -k ≤ cei x y ∧ cei x y ≤ k := by
 have := flo_abs (x := -x) (k := k) (by omega) (by omega) hk hy
 unfold cei
 omega
section
variable {a b c d m n : Int} (v1 : vld a b = true) (v2 : vld c d = true) (h1 : a ≤ m) (h2 : m ≤ b) (h3 : c ≤ n) (h4 : n ≤ d) (g1 : greatestL a b ≤ 1000000000) (g2 : greatestL c d ≤ 1000000)
include v1 v2 h1 h2 h3 h4 g1 g2
end
end
section
open Go.RowKit
end
section
open Go.RowKit
theorem of_big (z : Int) (w : World) (h0 : -9223372036854775807 ≤ z) (h1 : z ≤ 9223372036854775807) :
  Calls Tryz.prog 121 #[.int .i64 z] w (RetBig z w) := by
 by_cases h : 0 ≤ z
 ·exact of_pos z w h h1
 ·have e := of_neg (-z) w (by omega) (by omega)
  rwa [Int.neg_neg] at e
end
end Go.Proofs.YtapldonpflgnfaaGreatDoor
