import Derived.Test.YtapldonpflgnfaaDoorMAA
import Derived.Test.YtapldonpflgnfaaDoorMAC
import Derived.Test.YtapldonpflgnfaaDoorMAO
import Derived.Lib.Hide
namespace Go.Proofs.YtapldonpflgnfaaDoor
set_option linter.unusedVariables false
set_option linter.unusedSimpArgs false
section
open Go.RowKit Go.Shelf
def sensP (S : List Src) (x : SensorD) : Int := if x.kind = 1 then fluxP (x.r, x.z) S else if x.kind = 2 then (fieldP (x.r, x.z) S).1 else (fieldP (x.r, x.z) S).2
def exactL (M : MachD) (C : CurD) (i : Int) : Int × Int :=
  if validC M C = true then if wthn i 0 ((M.sensors.length : Int) - 1) = true then match M.sensors[i.toNat]? with
    | some x => (sensP (srcM M C) x, 0)
    | none => (0, 7)
  else (0, 7) else (0, 1)
end
section
abbrev Tri := Int × Int × Int
def okP (x : Tri) : Bool := inR x.1 && vld x.2.1 x.2.2
def gLo (x : Tri) : Int := if 0 < x.1 then flo (x.2.1 * 1000) x.1 else if x.1 < 0 then flo (x.2.2 * 1000) x.1 else if x.2.1 ≤ 0 ∧ 0 ≤ x.2.2 then -1000000000 else 1
def gHi (x : Tri) : Int := if 0 < x.1 then cei (x.2.2 * 1000) x.1 else if x.1 < 0 then cei (x.2.1 * 1000) x.1 else if x.2.1 ≤ 0 ∧ 0 ≤ x.2.2 then 1000000000 else 0
def nar (s : Int × Int) (x : Tri) : Int × Int := (max s.1 (gLo x), min s.2 (gHi x))
def left (s : Int × Int) : List Tri → Int × Int
  | [] => s
  | x :: r => left (nar s x) r
def first (s : Int × Int) : List Tri → Int → Int
  | [], _ => -1
  | x :: r, i => if vld (nar s x).1 (nar s x).2 = true then first (nar s x) r (i + 1) else i
theorem okP_iff {x : Tri} : okP x = true ↔ (-1000000000000000 ≤ x.1 ∧ x.1 ≤ 1000000000000000) ∧ x.2.1 ≤ x.2.2 ∧ -1000000000000000 ≤ x.2.1 ∧ x.2.2 ≤ 1000000000000000 := by
  simp [okP, inR_iff, vld_iff]
def Lies (g : Int) (x : Tri) : Prop := x.2.1 * 1000 ≤ x.1 * g ∧ x.1 * g ≤ x.2.2 * 1000
end
section
open Go.RowKit
theorem flo_t (a b : Int) (hb : b ≠ 0) : flo a b = if a.tmod b ≠ 0 ∧ (decide (a < 0) != decide (b < 0)) = true then a.tdiv b - 1 else a.tdiv b := by
  have key : ∀ Z m : Int, 0 ≤ Z → 0 < m → Z.tdiv m = Z / m ∧ Z.tmod m = Z % m := fun Z m h0 h1 => ⟨Int.tdiv_eq_ediv_of_nonneg h0, Int.tmod_eq_emod_of_nonneg h0⟩
  by_cases h1 : a < 0 <;> by_cases h2 : b < 0
  · obtain ⟨Z, rfl⟩ : ∃ Z, a = -Z := ⟨-a, by omega⟩
    obtain ⟨m, rfl⟩ : ∃ m, b = -m := ⟨-b, by omega⟩
    obtain ⟨k1, k2⟩ := key Z m (by omega) (by omega)
    rw [Int.neg_tdiv, Int.tdiv_neg, Int.neg_tmod, Int.tmod_neg, k1, k2]
    unfold flo
    rw [if_neg (by omega), Int.neg_neg, Int.neg_neg, if_neg (fun h => absurd h.2 (by rw [decide_eq_true h1, decide_eq_true h2]; decide)), Int.neg_neg]
  · obtain ⟨Z, rfl⟩ : ∃ Z, a = -Z := ⟨-a, by omega⟩
    obtain ⟨k1, k2⟩ := key Z b (by omega) (by omega)
    rw [Int.neg_tdiv, Int.neg_tmod, k1, k2]
    unfold flo
    rw [if_pos (by omega)]
    rcases neg_quo Z b (by omega) with ⟨c, d⟩ | ⟨c, d⟩
    · rw [d, if_neg (by rw [c]; simp)]
    · rw [d, if_pos ⟨by omega, by simp [h1, h2]; try omega⟩]; omega
  · obtain ⟨m, rfl⟩ : ∃ m, b = -m := ⟨-b, by omega⟩
    obtain ⟨k1, k2⟩ := key a m (by omega) (by omega)
    rw [Int.tdiv_neg, Int.tmod_neg, k1, k2]
    unfold flo
    rw [if_neg (by omega), Int.neg_neg]
    rcases neg_quo a m (by omega) with ⟨c, d⟩ | ⟨c, d⟩
    · rw [d, if_neg (by rw [c]; simp)]
    · rw [d, if_pos ⟨by omega, by simp [h1, h2]; try omega⟩]; omega
  · obtain ⟨k1, k2⟩ := key a b (by omega) (by omega)
    rw [k1, k2]
    unfold flo
    rw [if_pos (by omega), if_neg (by simp [h1, h2])]
theorem tdiv_fit (a b : Int) (h1 : -1000000000000000000 ≤ a) (h2 : a ≤ 1000000000000000000) (hb : b ≠ 0) : (-1000000000000000000 ≤ a.tdiv b ∧ a.tdiv b ≤ 1000000000000000000) ∧ (-1000000000000000000 ≤ a.tmod b ∧ a.tmod b ≤ 1000000000000000000) := by
  have k1 := Int.natAbs_tdiv a b
  have k2 := Int.natAbs_tmod a b
  have k3 := Nat.div_le_self a.natAbs b.natAbs
  have k4 := Nat.mod_le a.natAbs b.natAbs
  have k5 : (a.tdiv b).natAbs ≤ a.natAbs := by rw [k1]; exact k3
  have k6 : (a.tmod b).natAbs ≤ a.natAbs := by rw [k2]; exact k4
  omega
theorem flo_bd (a b : Int) (h1 : -1000000000000000000 ≤ a) (h2 : a ≤ 1000000000000000000) (hb : b ≠ 0) : -1000000000000000001 ≤ flo a b ∧ flo a b ≤ 1000000000000000000 := by
  have h := tdiv_fit a b h1 h2 hb
  rw [flo_t a b hb]
  split <;> omega
set_option maxHeartbeats 1000000 in
theorem down_any (a b : Int) (w : World) (h1 : -1000000000000000000 ≤ a) (h2 : a ≤ 1000000000000000000) (b1 : -1000000000000000 ≤ b) (b2 : b ≤ 1000000000000000) (hb : b ≠ 0) :
    Calls Tryd.prog 46 #[.int .i64 a, .int .i64 b] w fun e w' => e = .returned (.int .i64 (flo a b)) ∧ w = w' := by
  obtain ⟨⟨q1, q2⟩, r1, r2⟩ := tdiv_fit a b h1 h2 hb
  have HF := Lib.hid (flo_t a b hb)
  generalize flo a b = f at *
  have hb0 : (b == 0) = false := by rw [beq_eq_false_iff_ne]; exact hb
  have hb1 : ¬b = 0 := hb
  generalize hq : a.tdiv b = q at *
  generalize hr : a.tmod b = r at *
  clear hb
  by_cases hz : r = 0
  · have hz1 : (r != 0) = false := by simp [hz]
    have HE : Hid (f = q) := Lib.hid (by rw [HF.out, if_neg (by simp [hz])])
    clear HF hz
    go_enter Tryd.func46, Tryd.ntmps46
    go_wp2
    go_ret
    exact ⟨by rw [HE.out]; rfl, rfl⟩
  · have hz1 : (r != 0) = true := by rw [bne_iff_ne]; exact hz
    by_cases ha : a < 0 <;> by_cases hb' : b < 0
    all_goals have HE : Hid (f = if (decide (a < 0) != decide (b < 0)) = true then q - 1 else q) := Lib.hid (by rw [HF.out]; simp [hz])
    all_goals simp only [ha, hb', decide_true, decide_false, bne_self_eq_false, Bool.false_eq_true, if_false, Bool.true_bne, Bool.false_bne, Bool.not_false, if_true] at HE
    all_goals clear HF hz
    all_goals go_enter Tryd.func46, Tryd.ntmps46
    all_goals go_wp2
    all_goals go_ret
    all_goals exact ⟨by rw [HE.out]; rfl, rfl⟩
set_option maxHeartbeats 1000000 in
theorem up_any (a b : Int) (w : World) (h1 : -1000000000000000000 ≤ a) (h2 : a ≤ 1000000000000000000) (b1 : -1000000000000000 ≤ b) (b2 : b ≤ 1000000000000000) (hb : b ≠ 0) :
    Calls Tryd.prog 47 #[.int .i64 a, .int .i64 b] w fun e w' => e = .returned (.int .i64 (cei a b)) ∧ w = w' := by
  have hf := flo_bd (-a) b (by omega) (by omega) hb
  have HD := Lib.hid (fun W => down_any (-a) b W (by omega) (by omega) b1 b2 hb)
  unfold cei
  clear hb
  generalize flo (-a) b = f at *
  go_enter Tryd.func47, Tryd.ntmps47
  go_wp2_with (go_at_call 46; refine (HD.out _).mono ?_; rintro e w' ⟨rfl, rfl⟩)
  go_ret
  exact ⟨rfl, rfl⟩
end
end Go.Proofs.YtapldonpflgnfaaDoor
