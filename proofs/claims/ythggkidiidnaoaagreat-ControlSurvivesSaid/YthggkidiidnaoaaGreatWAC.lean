import Derived.Test.YthggkidiidnaoaaGreatWAA
import Derived.Test.YthggkidiidnaoaaGreatWAB
import Derived.Deep.QuietTactic
import Derived.BigQuiet
import Derived.Deep.RegionHeld3
import Derived.Deep.DeepCutAuto
import Derived.Lib.Hide
import Derived.Laws.MathBits
import Derived.Laws.Externs
import Derived.Shelf.Bits.Mul64
namespace Go.Proofs.YthggkidiidnaoaaGreat
set_option linter.unusedVariables false
set_option linter.unusedSimpArgs false
section
open Go.RowKit
theorem abs_mul' (a b : Int) : max (a * b) (-(a * b)) = max a (-a) * max b (-b) := by
 rcases Int.lt_or_le a 0 with h | h <;> rcases Int.lt_or_le b 0 with k | k
 ·have := Int.mul_nonneg_of_nonpos_of_nonpos (show a ≤ 0 by omega) (show b ≤ 0 by omega)
  rw [show max a (-a) = -a by omega, show max b (-b) = -b by omega, Int.neg_mul_neg]
  omega
 ·have := Int.mul_nonneg (show 0 ≤ -a by omega) k
  rw [Int.neg_mul] at this
  rw [show max a (-a) = -a by omega, show max b (-b) = b by omega, Int.neg_mul]
  omega
 ·have := Int.mul_nonneg h (show 0 ≤ -b by omega)
  rw [Int.mul_neg] at this
  rw [show max a (-a) = a by omega, show max b (-b) = -b by omega, Int.mul_neg]
  omega
 ·have := Int.mul_nonneg h k
  rw [show max a (-a) = a by omega, show max b (-b) = b by omega]
  omega
theorem sign_mul {a b : Int} (h : a * b ≠ 0) : (decide (a < 0) != decide (b < 0)) = decide (a * b < 0) := by
 rcases Int.lt_trichotomy a 0 with ha | ha | ha <;> rcases Int.lt_trichotomy b 0 with hb | hb | hb
 ·have := Int.mul_pos_of_neg_of_neg ha hb
  rw [decide_eq_true ha, decide_eq_true hb, decide_eq_false om9]; rfl
 ·subst hb; simp at h
 ·have := Int.mul_neg_of_neg_of_pos ha hb
  rw [decide_eq_true ha, decide_eq_false om9, decide_eq_true this]; rfl
 ·subst ha; simp at h
 ·subst ha; simp at h
 ·subst ha; simp at h
 ·have := Int.mul_neg_of_pos_of_neg ha hb
  rw [decide_eq_false om9, decide_eq_true hb, decide_eq_true this]; rfl
 ·subst hb; simp at h
 ·have := Int.mul_pos ha hb
  rw [decide_eq_false om9, decide_eq_false om9, decide_eq_false om9]; rfl
theorem times_big (a b : Int) (u v : Value) (w : World) (hu : BigV w u a) (hv : BigV w v b) (ha : max a (-a) < pw 16) (hb : max b (-b) < pw 16) :
  Calls Tryz.prog 88 #[u, v] w (RetBig (a * b) w) := by
 obtain ⟨A, n, ca, P, rfl, h1, h2, h3, h4, h5⟩ := hu
 obtain ⟨B, m, cb, Q, rfl, k1, k2, k3, k4, k5⟩ := hv
 have ln := len_le_of_val h4 (n := 16) (by rw [h5]; exact ha)
 have lm := len_le_of_val k4 (n := 16) (by rw [k5]; exact hb)
 rw [h1.1] at ln
 rw [k1.1] at lm
 refine (times_any _ _ A B n m ca cb P Q w h1 k1 ln lm h4.1 k4.1).mono ?_
 rintro e w' ⟨O, e1, e2, e3, A', k, cap, rfl, g1, g2, g3, g4, g5, g6⟩
 have hv : val (O.take k) = max (a * b) (-(a * b)) := by rw [g5, e1, h5, k5, abs_mul']
 refine ⟨_, rfl, ⟨A', k, cap, O.take k, ?_, g1.mono (Nat.zero_le _), g2, by omega, g4, hv⟩, g6⟩
 have hk : 0 < k ↔ a * b ≠ 0 := by
  have h0 := canon_nil g4
  have hl := g1.1
  constructor
  ·intro hk h
   rw [hv, h] at h0
   have := h0.1 (by rfl)
   rw [this] at hl
   simp at hl
   omega
  ·intro h
   rcases Nat.eq_zero_or_pos k with hk | hk
   ·subst hk
    rw [hv] at h0
    have := h0.2 (by simp)
    omega
   ·exact hk
 by_cases h : a * b = 0
 ·have : ¬0 < k := fun h' => (hk.1 h') h
  rw [decide_eq_false this, Bool.and_false, decide_eq_false om9]
 ·rw [decide_eq_true (hk.2 h), Bool.and_true, sign_mul h]
theorem val_gt {P Q : List Int} {k : Nat} (hP : Digs P) (hQ : Digs Q) (hl : P.length = Q.length) (hk : k < P.length) (hd : ∀ j, k < j → j < P.length → P.getD j 0 = Q.getD j 0) (hg : Q.getD k 0 < P.getD k 0) : val Q < val P := by
 have e : P.drop (k + 1) = Q.drop (k + 1) := by
  apply List.ext_getElem?
  intro i
  rw [List.getElem?_drop, List.getElem?_drop]
  by_cases hi : k + 1 + i < P.length
  ·have := hd (k + 1 + i) om9 hi
   rw [List.getD_eq_getElem?_getD, List.getD_eq_getElem?_getD, List.getElem?_eq_getElem hi, List.getElem?_eq_getElem om9] at this
   rw [List.getElem?_eq_getElem hi, List.getElem?_eq_getElem om9]
   simpa using this
  ·rw [List.getElem?_eq_none om9, List.getElem?_eq_none om9]
 have a1 := val_append (P.take (k + 1)) (P.drop (k + 1))
 have a2 := val_append (Q.take (k + 1)) (Q.drop (k + 1))
 rw [List.take_append_drop] at a1 a2
 rw [List.length_take, Nat.min_eq_left om9] at a1 a2
 rw [val_take_succ P k hk] at a1
 rw [val_take_succ Q k om9, ← e] at a2
 have tb : ∀ R : List Int, Digs R → k < R.length → 0 ≤ val (R.take k) ∧ val (R.take k) < pw k := fun R hR hkR => by
  have := val_bound (l := R.take k) (fun x hx => hR x (List.mem_of_mem_take hx))
  rwa [List.length_take, Nat.min_eq_left om9] at this
 have b1 := tb P hP hk
 have b2 := tb Q hQ om9
 have pp := pw_pos k
 have := Int.mul_le_mul_of_nonneg_left (show Q.getD k 0 + 1 ≤ P.getD k 0 by omega) (show 0 ≤ pw k by omega)
 rw [Int.mul_add, Int.mul_one] at this
 omega
theorem val_eq {P Q : List Int} (hl : P.length = Q.length) (hd : ∀ j, j < P.length → P.getD j 0 = Q.getD j 0) : P = Q := by
 apply List.ext_getElem?
 intro i
 by_cases hi : i < P.length
 ·have := hd i hi
  rw [List.getD_eq_getElem?_getD, List.getD_eq_getElem?_getD, List.getElem?_eq_getElem hi, List.getElem?_eq_getElem om9] at this
  rw [List.getElem?_eq_getElem hi, List.getElem?_eq_getElem om9]
  simpa using this
 ·rw [List.getElem?_eq_none om9, List.getElem?_eq_none om9]
theorem len_lt_val {P Q : List Int} (hP : Canon P) (hQ : Canon Q) (h : P.length < Q.length) : val P < val Q := by
 have h1 := val_bound hP.1
 have hne : Q ≠ [] := by intro e; rw [e] at h; simp at h
 have h2 := canon_low hQ hne
 have h3 := pw_mono (show P.length ≤ Q.length - 1 by omega)
 omega
def cmpA (x y : Int) : Int := if y < x then 1 else if x < y then -1 else 0
set_option maxRecDepth 100000 in
set_option maxHeartbeats 8000000 in
theorem larger_any (na nb : Bool) (A B : Option Addr) (n m ca cb : Nat) (P Q : List Int) (w : World) (hI : IsI w 0 A n P) (hJ : IsI w 0 B m Q) (hn : n ≤ 64) (hm : m ≤ 64) (hP : Canon P) (hQ : Canon Q) :
  Calls Tryz.prog 133 #[.agg #[.bool na, .slice A n ca], .agg #[.bool nb, .slice B m cb]] w (fun e w' => e = .returned (.int .i64 (cmpA (val P) (val Q))) ∧ Below w.heap.size w w') := by
 rcases Nat.lt_trichotomy n m with h | h | h
 ·have e : cmpA (val P) (val Q) = -1 := by
   have := len_lt_val hP hQ (by rw [hI.1, hJ.1]; exact h)
   unfold cmpA; rw [if_neg om9, if_pos this]
  rw [e]
  have b0 : ((n : Int) != m) = true := by rw [bne_iff_ne]; omega
  clear e hI hJ hP hQ
  go_enter Tryz.func133, Tryz.ntmps133
  go_wp2
  go_ret
  exact ⟨rfl, by (repeat first | with_reducible exact Below.refl _ _ | (with_reducible refine Below.alloc ?_ ?_ _; rotate_left; exact (by first | omega | (simp; done))))⟩
 ·subst h
  have HI := Lib.hid hI
  have HJ := Lib.hid hJ
  have LP := Lib.hid hI.1
  have LQ := Lib.hid hJ.1
  have HP := Lib.hid hP
  have HQ := Lib.hid hQ
  clear hI hJ hP hQ
  go_enter Tryz.func133, Tryz.ntmps133
  go_wp2_with fail
  go_loopw [5] (fun i wr => ∃ k : Nat, k ≤ n ∧ i = .int .i64 ((k : Int) - 1) ∧ (∀ j, k ≤ j → j < n → P.getD j 0 = Q.getD j 0) ∧ wr.cell? ⟨w.heap.size, 1, none⟩ = some (.slice A n ca) ∧ wr.cell? ⟨w.heap.size + 1, 1, none⟩ = some (.slice B n cb) ∧ Below w.heap.size w wr) (fun i _ => (intOf i + 1).toNat)
  case atStart => exact ⟨n, Nat.le_refl _, rfl, fun j h1 h2 => by omega, (by go_simp), (by go_simp), (by (repeat first | with_reducible exact Below.refl _ _ | (with_reducible refine Below.alloc ?_ ?_ _; rotate_left; exact (by first | omega | (simp; done)))))⟩
  case round =>
   obtain ⟨k, hk, hi, hd, t0, t1, hB⟩ := hrel
   rcases k with _ | k
   ·rw [show ((0 : Nat) : Int) - 1 = -1 by omega] at hi
    subst hi
    have hPQ := val_eq (P := P) (Q := Q) (by rw [LP.out, LQ.out]) (fun j hj => hd j (Nat.zero_le _) (by rw [← LP.out]; exact hj))
    have e : cmpA (val P) (val Q) = 0 := by rw [hPQ]; unfold cmpA; rw [if_neg om9, if_neg om9]
    have HE := Lib.hid e
    clear e hPQ hd
    go_wp2
    go_ret
    exact ⟨by rw [HE.out]; rfl, hB⟩
   ·rw [show ((k + 1 : Nat) : Int) - 1 = k by omega] at hi
    subst hi
    obtain ⟨a, ao, rfl, _, ha, hcP⟩ := HI.out.2 om9
    obtain ⟨b, bo, rfl, _, hb, hcQ⟩ := HJ.out.2 om9
    have p0 := (hB.cell (p := ⟨a, ao + k, none⟩) ha).trans (hcP k om9)
    have q0 := (hB.cell (p := ⟨b, bo + k, none⟩) hb).trans (hcQ k om9)
    have gt := @val_gt P Q k HP.out.1 HQ.out.1 (by rw [LP.out, LQ.out]) (by rw [LP.out]; omega) (fun j h1 h2 => hd j om9 (by rw [← LP.out]; exact h2))
    have lt := @val_gt Q P k HQ.out.1 HP.out.1 (by rw [LP.out, LQ.out]) (by rw [LQ.out]; omega) (fun j h1 h2 => (hd j om9 (by rw [← LQ.out]; exact h2)).symm)
    have eqs : P.getD k 0 = Q.getD k 0 → ∀ j, k ≤ j → j < n → P.getD j 0 = Q.getD j 0 := fun he j h1 h2 => by
     rcases Nat.lt_or_ge k j with h3 | h3
     ·exact hd j h3 h2
     ·rw [show j = k by omega]; exact he
    clear hcP hcQ hd
    generalize P.getD k 0 = dp at *
    generalize Q.getD k 0 = dq at *
    have k0 : (0 : Int) ≤ k := by omega
    have k1 : (k : Int) < n := by omega
    rcases Int.lt_trichotomy dp dq with hh | hh | hh
    ·have e : cmpA (val P) (val Q) = -1 := by have := lt hh; unfold cmpA; rw [if_neg om9, if_pos this]
     have HE := Lib.hid e
     clear e gt lt eqs
     go_wp2_with fail
     go_quiet (fail)
     go_wp2_with fail
     go_quiet (fail)
     go_wp2
     go_ret
     exact ⟨by rw [HE.out]; rfl, by (repeat first | with_reducible assumption | with_reducible refine Below_drewN ?_ _)⟩
    ·subst hh
     have HE := Lib.hid (eqs rfl)
     clear gt lt eqs
     go_wp2_with fail
     go_quiet (fail)
     go_wp2_with fail
     go_quiet (fail)
     go_wp2
     go_roundw
     case rel => exact ⟨k, by omega, rfl, HE.out, (by go_simp), (by go_simp), (by (repeat first | with_reducible assumption | with_reducible refine Below_drewN ?_ _))⟩
     case measure => first | (simp [intOf]; done) | (simp [intOf]; omega)
    ·have e : cmpA (val P) (val Q) = 1 := by have := gt hh; unfold cmpA; rw [if_pos this]
     have HE := Lib.hid e
     clear e gt lt eqs
     go_wp2_with fail
     go_quiet (fail)
     go_wp2
     go_ret
     exact ⟨by rw [HE.out]; rfl, by (repeat first | with_reducible assumption | with_reducible refine Below_drewN ?_ _)⟩
 ·have e : cmpA (val P) (val Q) = 1 := by
   have := len_lt_val hQ hP (by rw [hI.1, hJ.1]; exact h)
   unfold cmpA; rw [if_pos this]
  rw [e]
  have b0 : ((n : Int) != m) = true := by rw [bne_iff_ne]; omega
  clear e hI hJ hP hQ
  go_enter Tryz.func133, Tryz.ntmps133
  go_wp2
  go_ret
  exact ⟨rfl, by (repeat first | with_reducible exact Below.refl _ _ | (with_reducible refine Below.alloc ?_ ?_ _; rotate_left; exact (by first | omega | (simp; done))))⟩
theorem larger_big (a b : Int) (u v : Value) (w : World) (hu : BigV w u a) (hv : BigV w v b) :
  Calls Tryz.prog 133 #[u, v] w (fun e w' => e = .returned (.int .i64 (cmpA (max a (-a)) (max b (-b)))) ∧ Below w.heap.size w w') := by
 obtain ⟨A, n, ca, P, rfl, h1, h2, h3, h4, h5⟩ := hu
 obtain ⟨B, m, cb, Q, rfl, k1, k2, k3, k4, k5⟩ := hv
 have := larger_any (decide (a < 0)) (decide (b < 0)) A B n m ca cb P Q w h1 k1 h3 k3 h4 k4
 rwa [h5, k5] at this
end
section
open Go.RowKit
def intL (z : Int) : Int × Bool := if max z (-z) < 1000000000000000000 then (z, true) else (0, false)
theorem drop_step (P : List Int) (k : Nat) (hk : k < P.length) : val (P.drop k) = P.getD k 0 + 10000 * val (P.drop (k + 1)) := by
 rw [List.drop_eq_getElem_cons hk, List.getD_eq_getElem?_getD, List.getElem?_eq_getElem hk]
 rfl
theorem drop_le {P : List Int} (hP : Digs P) (k : Nat) : 0 ≤ val (P.drop k) ∧ val (P.drop k) ≤ val P := by
 have h0 := val_bound (l := P.drop k) (fun x hx => hP x (List.mem_of_mem_drop hx))
 have h1 := val_bound (l := P.take k) (fun x hx => hP x (List.mem_of_mem_take hx))
 have e := val_append (P.take k) (P.drop k)
 rw [List.take_append_drop] at e
 have := Int.mul_le_mul_of_nonneg_right (pw_pos (P.take k).length) h0.1
 omega
set_option maxRecDepth 100000 in
set_option maxHeartbeats 8000000 in
theorem int_any (z : Int) (u : Value) (w : World) (h : BigV w u z) :
  Calls Tryz.prog 90 #[u] w (fun e w' => e = .returned (.tuple #[.int .i64 (intL z).1, .bool (intL z).2]) ∧ Below w.heap.size w w') := by
 have HU := Lib.hid (fun W (hb : Below w.heap.size w W) => h.below hb)
 obtain ⟨A, n, cap, P, rfl, h1, h2, h3, h4, h5⟩ := h
 have HI := Lib.hid h1
 have LP := Lib.hid h1.1
 have HP := Lib.hid h4
 have HV := Lib.hid h5
 clear h1 h4 h5
 obtain ⟨neg, hneg⟩ : ∃ b, decide (z < 0) = b := ⟨_, rfl⟩
 rw [hneg] at HU
 have HN := Lib.hid hneg
 rw [hneg]
 clear hneg
 by_cases hbig : max z (-z) < 1000000000000000000
 ·have e : intL z = (z, true) := by unfold intL; rw [if_pos hbig]
  rw [e]
  have hc : cmpA (max z (-z)) (max 1000000000000000000 (-1000000000000000000)) = -1 := by
   rw [show max (1000000000000000000 : Int) (-1000000000000000000) = 1000000000000000000 by omega]
   unfold cmpA; rw [if_neg om9, if_pos hbig]
  have HL := Lib.hid (fun W u v hu hv => (show Calls Tryz.prog 133 #[u, v] W (fun e w' => e = .returned (.int .i64 (-1)) ∧ Below W.heap.size W w') by have := larger_big z 1000000000000000000 u v W hu hv; rwa [hc] at this))
  have hb18 : val P < 1000000000000000000 := by rw [HV.out]; exact hbig
  have HB := Lib.hid hb18
  clear e hc hbig hb18
  go_enter Tryz.func90, Tryz.ntmps90
  go_upto_region 1 with fail
  go_cut [9] (fun s9 wx => s9 = .bool false ∧ wx.cell? ⟨w.heap.size, 0, none⟩ = some (.bool neg) ∧ wx.cell? ⟨w.heap.size, 1, none⟩ = some (.slice A n cap) ∧ Below w.heap.size w wx)
  case first =>
   have HS : Hid (∀ w' : World, Reg (w.heap.size + 1) (w.alloc (.cells #[.bool neg, .slice A n cap] 156)) w' → (Reg (w.heap.size + 1) (w.alloc (.cells #[.bool neg, .slice A n cap] 156)) w' ∧ w'.cell? ⟨w.heap.size, 0, none⟩ = some (.bool neg) ∧ w'.cell? ⟨w.heap.size, 1, none⟩ = some (.slice A n cap))) := (fun w' h => by (have hc := h.cells; have hs := h.some; have hf := h.frozen; refine ⟨h, ?_⟩; (try simp only [World.size_alloc, World.size_setCell, size_drew, size_drewN] at hc hs hf); first | (simp (disch := omega) only [hc, hs, hf, cur_iff]; (try go_simp); done) | (simp (disch := first | omega | (simp; done)) only [hc, hs, hf, cur_iff]; (try go_simp); done) | (simp (maxDischargeDepth := 4) [hc, hs, hf, cur_iff, go_sem]; done) | (go_simp; done) | (simp (maxDischargeDepth := 4) [hc, hs, hf, cur_iff, go_sem]; go_simp))); go_region_held3 (fun w' => Reg (w.heap.size + 1) (w.alloc (.cells #[.bool neg, .slice A n cap] 156)) w' ∧ w'.cell? ⟨w.heap.size, 0, none⟩ = some (.bool neg) ∧ w'.cell? ⟨w.heap.size, 1, none⟩ = some (.slice A n cap)) (exact HS.out _ (by (repeat first | with_reducible exact Reg.refl _ _ | with_reducible exact (‹Reg _ _ _ ∧ _›).1 | with_reducible refine Reg.drew ?_ | (with_reducible apply Reg.call; rotate_left; with_reducible assumption)))) (first | (go_at_call 89; refine (of_pos 1000000000000000000 _ om9 om9).mono ?_; rintro e w1 ⟨v1, rfl, hv1, hb⟩; (with_reducible have hk := Nat.lt_of_lt_of_le (size_alloc_lt _ _) hb.size); (try simp only [World.size_alloc, World.size_setCell, size_drew, size_drewN] at hk); obtain ⟨hc, hf⟩ := bcell hb; have hs := hb.size; (try simp only [World.size_alloc, World.size_setCell, size_drew, size_drewN] at hs)) | (go_at_call 133; refine (HL.out _ _ _ (HU.out _ (Reg.out (‹Reg _ _ _ ∧ _›).1 bl9 om9)) hv1).mono ?_; rintro e w1 ⟨rfl, hb⟩; (with_reducible have hk := Nat.lt_of_lt_of_le hk hb.size); (try simp only [World.size_alloc, World.size_setCell, size_drew, size_drewN] at hk); obtain ⟨hc, hf⟩ := bcell hb; have hs := hb.size; (try simp only [World.size_alloc, World.size_setCell, size_drew, size_drewN] at hs)))
   all_goals go_wp2_with fail
   all_goals go_meet
   all_goals
    have hH := ‹Reg _ _ _ ∧ _›
    exact ⟨rfl, hH.2.1, hH.2.2, (Reg.out (‹Reg _ _ _ ∧ _›).1 bl9 om9)⟩
  case rest =>
   obtain ⟨rfl, t0, t1, hB⟩ := hcut
   go_wp2_with fail
   go_loopw [4, 5] (fun s i wr => ∃ k : Nat, k ≤ n ∧ i = .int .i64 ((k : Int) - 1) ∧ s = .int .i64 (val (P.drop k)) ∧ wr.cell? ⟨w.heap.size, 0, none⟩ = some (.bool neg) ∧ wr.cell? ⟨w.heap.size, 1, none⟩ = some (.slice A n cap) ∧ Below w.heap.size w wr) (fun _ i _ => (intOf i + 1).toNat)
   case atStart => exact ⟨n, Nat.le_refl _, rfl, (by rw [List.drop_of_length_le (by rw [LP.out]; exact Nat.le_refl _)]; rfl), t0, t1, hB⟩
   case round =>
    clear t0 t1 hB
    obtain ⟨k, hk, hi, hs, t0, t1, hB⟩ := hrel
    rcases k with _ | k
    ·rw [show ((0 : Nat) : Int) - 1 = -1 by omega] at hi
     rw [List.drop_zero, HV.out] at hs
     subst hi hs
     cases neg
     ·have hz : max z (-z) = z := by have := HN.out; simp at this; omega
      rw [hz]
      have HZ := Lib.hid hz
      clear hz
      go_wp2
      go_ret2
      exact ⟨rfl, hB⟩
     ·have hz : max z (-z) = -z := by have := HN.out; simp at this; omega
      have hb := HB.out
      rw [HV.out, hz] at hb
      have hz0 : z < 0 := by have := HN.out; simpa using this
      rw [hz]
      have HZ := Lib.hid hz
      clear hz
      go_wp2
      go_ret2
      exact ⟨by simp, hB⟩
    ·rw [show ((k + 1 : Nat) : Int) - 1 = k by omega] at hi
     subst hi hs
     obtain ⟨a, ao, rfl, _, ha, hcP⟩ := HI.out.2 om9
     have p0 := (hB.cell (p := ⟨a, ao + k, none⟩) ha).trans (hcP k om9)
     have hd := drop_step P k (by rw [LP.out]; omega)
     have d1 := drop_le HP.out.1 (k + 1)
     have d0 := drop_le HP.out.1 k
     have hb := HB.out
     have dg := digs_getD HP.out.1 k
     clear hcP
     generalize P.getD k 0 = dp at *
     generalize val (P.drop (k + 1)) = r at *
     have HD := Lib.hid hd
     have q1 : 10000 * r + dp < 1000000000000000000 := by omega
     obtain ⟨d2, d3⟩ := d1
     obtain ⟨g1, g2⟩ := dg
     have k0 : (0 : Int) ≤ k := by omega
     have k1 : (k : Int) < n := by omega
     clear hd d0 hb
     go_wp2
     go_roundw
     case rel => exact ⟨k, by omega, rfl, by rw [HD.out]; go_num, t0, t1, hB⟩
     case measure => first | (simp [intOf]; done) | (simp [intOf]; omega)
 ·have e : intL z = (0, false) := by unfold intL; rw [if_neg hbig]
  rw [e]
  have hc : 0 ≤ cmpA (max z (-z)) (max 1000000000000000000 (-1000000000000000000)) := by
   rw [show max (1000000000000000000 : Int) (-1000000000000000000) = 1000000000000000000 by omega]
   unfold cmpA
   (repeat' split) <;> omega
  obtain ⟨c, hce⟩ : ∃ c, cmpA (max z (-z)) (max 1000000000000000000 (-1000000000000000000)) = c := ⟨_, rfl⟩
  rw [hce] at hc
  have HL := Lib.hid (fun W u v hu hv => (show Calls Tryz.prog 133 #[u, v] W (fun e w' => e = .returned (.int .i64 c) ∧ Below W.heap.size W w') by have := larger_big z 1000000000000000000 u v W hu hv; rwa [hce] at this))
  clear e hce hbig
  go_enter Tryz.func90, Tryz.ntmps90
  go_upto_region 1 with fail
  go_cut [9] (fun s9 wx => s9 = .bool true ∧ Below w.heap.size w wx)
  case first =>
   have HS : Hid (∀ w' : World, Reg (w.heap.size + 1) (w.alloc (.cells #[.bool neg, .slice A n cap] 156)) w' → (Reg (w.heap.size + 1) (w.alloc (.cells #[.bool neg, .slice A n cap] 156)) w' ∧ w'.cell? ⟨w.heap.size, 0, none⟩ = some (.bool neg) ∧ w'.cell? ⟨w.heap.size, 1, none⟩ = some (.slice A n cap))) := (fun w' h => by (have hc := h.cells; have hs := h.some; have hf := h.frozen; refine ⟨h, ?_⟩; (try simp only [World.size_alloc, World.size_setCell, size_drew, size_drewN] at hc hs hf); first | (simp (disch := omega) only [hc, hs, hf, cur_iff]; (try go_simp); done) | (simp (disch := first | omega | (simp; done)) only [hc, hs, hf, cur_iff]; (try go_simp); done) | (simp (maxDischargeDepth := 4) [hc, hs, hf, cur_iff, go_sem]; done) | (go_simp; done) | (simp (maxDischargeDepth := 4) [hc, hs, hf, cur_iff, go_sem]; go_simp))); go_region_held3 (fun w' => Reg (w.heap.size + 1) (w.alloc (.cells #[.bool neg, .slice A n cap] 156)) w' ∧ w'.cell? ⟨w.heap.size, 0, none⟩ = some (.bool neg) ∧ w'.cell? ⟨w.heap.size, 1, none⟩ = some (.slice A n cap)) (exact HS.out _ (by (repeat first | with_reducible exact Reg.refl _ _ | with_reducible exact (‹Reg _ _ _ ∧ _›).1 | with_reducible refine Reg.drew ?_ | (with_reducible apply Reg.call; rotate_left; with_reducible assumption)))) (first | (go_at_call 89; refine (of_pos 1000000000000000000 _ om9 om9).mono ?_; rintro e w1 ⟨v1, rfl, hv1, hb⟩; (with_reducible have hk := Nat.lt_of_lt_of_le (size_alloc_lt _ _) hb.size); (try simp only [World.size_alloc, World.size_setCell, size_drew, size_drewN] at hk); obtain ⟨hc, hf⟩ := bcell hb; have hs := hb.size; (try simp only [World.size_alloc, World.size_setCell, size_drew, size_drewN] at hs)) | (go_at_call 133; refine (HL.out _ _ _ (HU.out _ (Reg.out (‹Reg _ _ _ ∧ _›).1 bl9 om9)) hv1).mono ?_; rintro e w1 ⟨rfl, hb⟩; (with_reducible have hk := Nat.lt_of_lt_of_le hk hb.size); (try simp only [World.size_alloc, World.size_setCell, size_drew, size_drewN] at hk); obtain ⟨hc, hf⟩ := bcell hb; have hs := hb.size; (try simp only [World.size_alloc, World.size_setCell, size_drew, size_drewN] at hs)))
   all_goals go_wp2_with fail
   all_goals go_meet
   all_goals
    have hH := ‹Reg _ _ _ ∧ _›
    exact ⟨by simp, (Reg.out (‹Reg _ _ _ ∧ _›).1 bl9 om9)⟩
  case rest =>
   obtain ⟨rfl, hB⟩ := hcut
   go_wp2
   go_ret2
   exact ⟨rfl, hB⟩
end
section
open Go.RowKit
end
section
open Go.RowKit
end
section
def hi64 (z : Int) : Int := z / 18446744073709551616 % 18446744073709551616
def lo64 (z : Int) : Int := z % 18446744073709551616
def Fit (z : Int) : Prop := -10000000000000000000000000000000000 ≤ z ∧ z ≤ 10000000000000000000000000000000000
theorem number_hi (n : Int) (h1 : -9223372036854775808 ≤ n) (h2 : n ≤ 9223372036854775807) : n / 9223372036854775808 % 18446744073709551616 = hi64 n := by unfold hi64; omega
theorem number_lo (n : Int) : n % 18446744073709551616 = lo64 n := rfl
def sgn64 (x : Int) : Int := (x + 9223372036854775808) % 18446744073709551616 - 9223372036854775808
theorem sgn_hi (z : Int) (h : Fit z) : sgn64 (hi64 z) = z / 18446744073709551616 := by unfold Fit at h; unfold sgn64 hi64; omega
theorem sgn_lo (n : Int) (h1 : -9223372036854775808 ≤ n) (h2 : n ≤ 9223372036854775807) : sgn64 (lo64 n) = n := by unfold sgn64 lo64; omega
theorem below_ne (y z : Int) (hy : Fit y) (hz : Fit z) (h : hi64 y ≠ hi64 z) : sgn64 (hi64 y) < sgn64 (hi64 z) ↔ y < z := by
 rw [sgn_hi y hy, sgn_hi z hz]; unfold Fit at hy hz; unfold hi64 at h; omega
theorem below_eq (y z : Int) (hy : Fit y) (hz : Fit z) (h : hi64 y = hi64 z) : lo64 y < lo64 z ↔ y < z := by
 unfold Fit at hy hz; unfold hi64 at h; unfold lo64; omega
def flo (x d : Int) : Int := if 0 < d then x / d else (-x) / (-d)
def cei (x d : Int) : Int := -(flo (-x) d)
end
section
open Go.RowKit
theorem wrapU (n : Int) : IntKind.u64.wrap n = n % 18446744073709551616 := by rw [IntKind.wrap_u64]
theorem wrapS (n : Int) : wrap64 n = sgn64 n := by unfold wrap64 sgn64; rfl
theorem res2 {fn : Func} {p : Tmp} (h : fn.results = #[.cell p 127]) (tmps : Array Value) (W : World) (b : Nat) (x y : Value)
  (hp : tmps.getD p undef = .pointer (some ⟨b, 0, none⟩)) (h0 : W.cell? ⟨b, 0, none⟩ = some x) (h1 : W.cell? ⟨b, 1, none⟩ = some y) :
  (results fn tmps).run Tryz.prog W = .ok (.agg #[x, y]) W := by
 have hp' : tmps[p]?.getD undef = .pointer (some ⟨b, 0, none⟩) := by simpa using hp
 simp only [results, h]
 simp [Sem.run_bind, Result.andThen, go_sem, hp', h0, h1]
theorem res4 {fn : Func} {p : Tmp} (h : fn.results = #[.cell p 129]) (tmps : Array Value) (W : World) (b : Nat) (x y z u : Value)
  (hp : tmps.getD p undef = .pointer (some ⟨b, 0, none⟩)) (h0 : W.cell? ⟨b, 0, none⟩ = some x) (h1 : W.cell? ⟨b, 1, none⟩ = some y) (h2 : W.cell? ⟨b, 2, none⟩ = some z) (h3 : W.cell? ⟨b, 3, none⟩ = some u) :
  (results fn tmps).run Tryz.prog W = .ok (.agg #[x, y, z, u]) W := by
 have hp' : tmps[p]?.getD undef = .pointer (some ⟨b, 0, none⟩) := by simpa using hp
 simp only [results, h]
 simp [Sem.run_bind, Result.andThen, go_sem, hp', h0, h1, h2, h3]
set_option maxHeartbeats 400000 in
theorem number_any (n : Int) (w : World) (h1 : -9223372036854775808 ≤ n) (h2 : n ≤ 9223372036854775807) :
  Calls Tryz.prog 64 #[.int .i64 n] w (Ret (.agg #[.int .u64 (hi64 n), .int .u64 (lo64 n)]) w) := by
 rw [← number_hi n h1 h2, ← number_lo n, ← wrapU n, ← wrapU]
 go_enter Tryz.func64, Tryz.ntmps64
 go_wp2
 exact bodyPost_ret (res2 Tryz.results64 _ _ _ _ _ rfl (by go_simp) (by go_simp)) rfl ⟨rfl, by (with_reducible repeat first | exact Below.refl _ _ | assumption | ((first | refine Below.setCell ?_ ?_ _ | refine Below.alloc ?_ ?_ _); rotate_left; exact (by first | omega | (simp; done) | (simp; omega))) | refine Below.drew ?_ | refine Below_drewN ?_ _)⟩
set_option maxHeartbeats 400000 in
theorem below_any (y z : Int) (w : World) (hy : Fit y) (hz : Fit z) :
  Calls Tryz.prog 165 #[.agg #[.int .u64 (hi64 y), .int .u64 (lo64 y)], .agg #[.int .u64 (hi64 z), .int .u64 (lo64 z)]] w (Ret (.bool (decide (y < z))) w) := by
 by_cases h : hi64 y = hi64 z
 ·have e := below_eq y z hy hz h
  have hb : (hi64 y != hi64 z) = false := by simp [h]
  clear hy hz h
  go_enter Tryz.func165, Tryz.ntmps165
  go_wp2
  go_ret
  exact ⟨rfl, by (with_reducible repeat first | exact Below.refl _ _ | assumption | ((first | refine Below.setCell ?_ ?_ _ | refine Below.alloc ?_ ?_ _); rotate_left; exact (by first | omega | (simp; done) | (simp; omega))) | refine Below.drew ?_ | refine Below_drewN ?_ _)⟩
 ·have e := below_ne y z hy hz h
  have hb : (hi64 y != hi64 z) = true := by simp [h]
  clear hy hz h
  go_enter Tryz.func165, Tryz.ntmps165
  go_wp2
  go_ret
  refine ⟨ret_bool ?_, by (with_reducible repeat first | exact Below.refl _ _ | assumption | ((first | refine Below.setCell ?_ ?_ _ | refine Below.alloc ?_ ?_ _); rotate_left; exact (by first | omega | (simp; done) | (simp; omega))) | refine Below.drew ?_ | refine Below_drewN ?_ _)⟩
  rw [wrapS, wrapS, decide_eq_decide]
  exact e
set_option maxHeartbeats 400000 in
theorem only_any (a b : Int) (w : World) :
  Calls Tryz.prog 63 #[.agg #[.int .u64 a, .int .u64 b]] w (Ret (.agg #[.int .u64 a, .int .u64 b, .int .u64 a, .int .u64 b]) w) := by
 go_enter Tryz.func63, Tryz.ntmps63
 go_wp2
 exact bodyPost_ret (res4 Tryz.results63 _ _ _ _ _ _ _ rfl (by go_simp) (by go_simp) (by go_simp) (by go_simp)) rfl ⟨rfl, by (with_reducible repeat first | exact Below.refl _ _ | assumption | ((first | refine Below.setCell ?_ ?_ _ | refine Below.alloc ?_ ?_ _); rotate_left; exact (by first | omega | (simp; done) | (simp; omega))) | refine Below.drew ?_ | refine Below_drewN ?_ _)⟩
open Go.Proofs.Mul64 in
set_option maxHeartbeats 1000000 in
theorem mul64_nat (x y : Nat) (hx : x < 18446744073709551616) (hy : y < 18446744073709551616) (w : World) :
  Calls Tryz.prog 137 #[.int .u64 x, .int .u64 y] w fun e w' => e = .returned (.tuple #[.int .u64 ((x * y / 18446744073709551616 : Nat) : Int), .int .u64 ((x * y % 18446744073709551616 : Nat) : Int)]) ∧ w = w' := by
 obtain ⟨bd, bt, bw, hhi⟩ := Lib.mul64_hi x y hx hy
 have ba := Lib.half_mul_le (a := x / 4294967296) (b := y / 4294967296) om9 om9
 have bb := Lib.half_mul_le (a := x / 4294967296) (b := y % 4294967296) om9 om9
 have bc := Lib.half_mul_le (a := x % 4294967296) (b := y / 4294967296) om9 om9
 have ba' : x / 4294967296 * (y / 4294967296) < 18446744073709551616 := by omega
 have bb' : x / 4294967296 * (y % 4294967296) < 18446744073709551616 := by omega
 have bc' : x % 4294967296 * (y / 4294967296) < 18446744073709551616 := by omega
 have bh1 : x / 4294967296 * (y / 4294967296) + (x / 4294967296 * (y % 4294967296) + x % 4294967296 * (y % 4294967296) / 4294967296) / 4294967296 < 18446744073709551616 := by omega
 have bh : x / 4294967296 * (y / 4294967296) + (x / 4294967296 * (y % 4294967296) + x % 4294967296 * (y % 4294967296) / 4294967296) / 4294967296 + ((x / 4294967296 * (y % 4294967296) + x % 4294967296 * (y % 4294967296) / 4294967296) % 4294967296 + x % 4294967296 * (y / 4294967296)) / 4294967296 < 18446744073709551616 := by omega
 go_enter Tryz.func137, Tryz.ntmps137
 go_wp2
 simp only [maskN x hx, maskN y hy, divN, mulN, addN, wrapN _ bd, wrapN _ bb', wrapN _ bt, maskN _ bt, wrapN _ bc', wrapN _ bw, wrapN _ ba', wrapN _ bh1, wrapN _ bh, wrapM (x * y)]
 rw [hhi]
 go_ret2
 exact ⟨rfl, rfl⟩
end
end Go.Proofs.YthggkidiidnaoaaGreat
