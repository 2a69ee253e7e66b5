import Derived.Test.YtfpjhobhmcfpnaaDoorJAA
import Derived.Test.YtfpjhobhmcfpnaaDoorJAC
import Derived.Test.YtfpjhobhmcfpnaaDoorJAY
import Derived.Laws.MathBits
import Derived.Lib.Hide
import Derived.Deep.RegionHeld3
import Derived.Deep.DeepCutAuto
import Derived.Deep.QuietTactic
import Derived.BigQuiet
import Derived.IntWalk
section
/- A filament's reading is the background's and the response's: plain arithmetic, over this seat's translation. -/
namespace Go.Proofs.YtfpjhobhmcfpnaaDoor
set_option linter.unusedVariables false
set_option linter.unusedSimpArgs false
open Go.RowKit Go.Shelf

theorem tot_zeros (n : Nat) (s : Int) (h0 : 0 ≤ s) (h1 : s ≤ 1000000) : tot s (List.replicate n 0) = s := by
  induction n with
  | zero => rfl
  | succ n ih =>
    rw [List.replicate_succ]
    unfold tot
    rw [IntWalk.wrap64_in _ (by omega), show s + 0 = s by omega]
    exact ih
theorem dark_fit {M : MachD} {C : CurD} (h : Fit2 M C) : Fit2 M (darkD C) :=
  ⟨h.check, h.coils, h.shells, ⟨by unfold darkD; simpa using h.plasma.1, fun x hx => by
    have := List.eq_of_mem_replicate hx
    omega⟩, by
    show tot 0 (List.replicate C.plasma.length 0) ≤ 1000000
    rw [tot_zeros _ 0 (by omega) (by omega)]; omega⟩

theorem fluxP_one (p : Int × Int) (x : Src) : fluxP p [x] = infl p.1 p.2 x.1.1 x.1.2 * x.2 := by simp [fluxP]
/-- The response of a sensor: of a current of 1 at a place. -/
def sensOne (x : SensorD) (X Y : Int) : Int := sensP [((X, Y), 1)] x
theorem sensOne_bd (x : SensorD) (X Y : Int) : -250000 ≤ sensOne x X Y ∧ sensOne x X Y ≤ 250000 := by
  unfold sensOne sensP fieldP
  simp only [fluxP_one, Int.mul_one]
  have a := infl_bd x.r x.z X Y
  have b := infl_bd x.r (x.z - 1) X Y
  have c := infl_bd x.r (x.z + 1) X Y
  have d := infl_bd (x.r + 1) x.z X Y
  have e := infl_bd (x.r - 1) x.z X Y
  split
  · omega
  · split <;> omega
theorem sensP_bd {S : List Src} (h : Small S) (x : SensorD) : -50000000000000000 ≤ sensP S x ∧ sensP S x ≤ 50000000000000000 := by
  unfold sensP fieldP
  have a := h.bd (x.r, x.z)
  have b := h.bd (x.r, x.z - 1)
  have c := h.bd (x.r, x.z + 1)
  have d := h.bd (x.r + 1, x.z)
  have e := h.bd (x.r - 1, x.z)
  split
  · omega
  · split
    · dsimp only; omega
    · dsimp only; omega

/-- A cell of a machine without an error lies where things may lie. -/
theorem cell_near {M : MachD} (h : checkC M = 0) {i : Int} (h0 : 0 ≤ i) (h1 : i ≤ M.grid.nr * M.grid.nz - 1) : nearB (cellR M.grid i) (cellZ M.grid i) 60 = true := by
  have hg := grid_of h
  have hf := fine_grid hg
  have hc := cells_fine hf
  unfold gridC at hg
  obtain ⟨r0, r1, z0, z1, n0, n1, k0, k1, s0, s1⟩ := hf
  split at hg
  · split at hg
    · have hl := near_iff.1 (rng_zero hg)
      unfold cellR cellZ at *
      generalize M.grid.r = r at *
      generalize M.grid.z = z at *
      generalize M.grid.nr = a at *
      generalize M.grid.nz = b at *
      generalize M.grid.step = s at *
      have m1 : (a * b - 1) % a = a - 1 := by
        rw [show a * b - 1 = (a - 1) + (b - 1) * a by rw [Int.sub_mul, Int.one_mul, Int.mul_comm b a]; omega, Int.add_mul_emod_self_right]
        exact Int.emod_eq_of_lt (by omega) (by omega)
      have d1 : (a * b - 1) / a = b - 1 := by
        rw [show a * b - 1 = (a - 1) + (b - 1) * a by rw [Int.sub_mul, Int.one_mul, Int.mul_comm b a]; omega, Int.add_mul_ediv_right _ _ (by omega), Int.ediv_eq_zero_of_lt (by omega) (by omega)]
        omega
      rw [m1, d1] at hl
      have a0 := Int.emod_nonneg i (show a ≠ 0 by omega)
      have a1 := Int.emod_lt_of_pos i (show 0 < a by omega)
      have b0 := Int.ediv_nonneg h0 (show 0 ≤ a by omega)
      have b1 : i / a ≤ b - 1 := by
        have : i / a < b := Int.ediv_lt_of_lt_mul (by omega) (by rw [Int.mul_comm b a]; omega)
        omega
      have u0 := Int.mul_nonneg a0 (show 0 ≤ s by omega)
      have u1 := Int.mul_le_mul_of_nonneg_right (show i % a ≤ a - 1 by omega) (show 0 ≤ s by omega)
      have v0 := Int.mul_nonneg b0 (show 0 ≤ s by omega)
      have v1 := Int.mul_le_mul_of_nonneg_right b1 (show 0 ≤ s by omega)
      rw [near_iff]
      omega
    · simp at hg
  · simp at hg
theorem eachGo_first {α : Type} {chk : α → List α → Int} {y : α} {r : List α} (h : eachGo chk [] (y :: r) = 0) : chk y [] = 0 := by
  unfold eachGo at h
  by_cases hc : chk y [] = 0
  · exact hc
  · rw [if_neg hc] at h; exact absurd h hc
theorem sensor_alone {x : SensorD} {e : List SensorD} (h : sensorC x e = 0) : sensorC x [] = 0 := by
  unfold sensorC at *
  split at h
  · rename_i hn
    rw [if_pos hn]
    split at h
    · simp at h
    · simpa using h
  · simp at h
theorem alone_check {M : MachD} (h : checkC M = 0) {x : SensorD} (hx : x ∈ M.sensors) {X Y : Int} (hn : nearB X Y 60 = true) : checkC (aloneM M x X Y) = 0 := by
  have g1 := (orL_zero h).1
  have h4 := (orL_zero (orL_zero (orL_zero (orL_zero h).2).2).2).1
  have h6 := (orL_zero (orL_zero (orL_zero (orL_zero (orL_zero (orL_zero h).2).2).2).2).2).1
  obtain ⟨e, he⟩ := (eachC_all h6).2 x hx
  have g6 : eachC sensorC 24 [x] = 0 := by
    unfold eachC
    rw [if_neg (by simp)]
    unfold eachGo
    rw [if_pos (sensor_alone he)]; rfl
  have g4 : limitsC (M.limits.take 1) = 0 := by
    unfold limitsC at *
    cases hm : M.limits with
    | nil => rw [hm] at h4; simp at h4
    | cons y r =>
      rw [hm] at h4
      rw [if_neg (by simp)] at h4
      unfold eachC at h4
      split at h4
      · simp at h4
      · have := eachGo_first h4
        rw [if_neg (by simp)]
        unfold eachC
        rw [if_neg (by simp), List.take_succ_cons, List.take_zero]
        unfold eachGo
        rw [if_pos this]; rfl
  have g5 : gridC ⟨X, Y, 1, 1, 1⟩ = 0 := by
    unfold gridC
    rw [if_pos (by simp [wthn]), if_pos hn]
    have : nearB (cellR ⟨X, Y, 1, 1, 1⟩ (1 * 1 - 1)) (cellZ ⟨X, Y, 1, 1, 1⟩ (1 * 1 - 1)) 60 = nearB X Y 60 := by simp [cellR, cellZ]
    dsimp only at this ⊢
    rw [this, hn]; rfl
  unfold checkC aloneM
  dsimp only
  rw [g1, g4, g5, g6]
  rfl
theorem alone_fit {M : MachD} (h : checkC M = 0) {x : SensorD} (hx : x ∈ M.sensors) {X Y : Int} (hn : nearB X Y 60 = true) : Fit2 (aloneM M x X Y) oneC :=
  ⟨alone_check h hx hn, ⟨rfl, fun y hy => by cases hy⟩, ⟨rfl, fun y hy => by cases hy⟩, ⟨rfl, fun y hy => by
    have : y = 1 := by simpa [oneC] using hy
    omega⟩, by show tot 0 [1] ≤ 1000000; simp only [tot]; rw [IntWalk.wrap64_in _ (by omega)]; omega⟩
theorem alone_exact {M : MachD} (h : checkC M = 0) {x : SensorD} (hx : x ∈ M.sensors) {X Y : Int} (hn : nearB X Y 60 = true) : (exactL (aloneM M x X Y) oneC 0).1 = sensOne x X Y := by
  unfold exactL
  rw [fit2_iff.2 (alone_fit h hx hn), if_pos rfl, if_pos (by rfl)]
  show sensP (srcM (aloneM M x X Y) oneC) x = _
  have : srcM (aloneM M x X Y) oneC = [((X, Y), 1)] := by
    simp [srcM, srcL, aloneM, oneC, cellSrc, cellR, cellZ]
  rw [this]; rfl

end Go.Proofs.YtfpjhobhmcfpnaaDoor
end
section
/- Plain arithmetic of two's complement numbers of 128 bits; it imports nothing of the program. -/
namespace Go.Proofs.YtfpjhobhmcfpnaaDoor
set_option linter.unusedVariables false
set_option linter.unusedSimpArgs false

/-- A quotient rounded down, and rounded up. -/
def flo (x d : Int) : Int := if 0 < d then x / d else (-x) / (-d)
def cei (x d : Int) : Int := -(flo (-x) d)

theorem neg_quo (Z m : Int) (hm : 0 < m) : (Z % m = 0 ∧ (-Z) / m = -(Z / m)) ∨ (0 < Z % m ∧ (-Z) / m = -(Z / m + 1)) := by
  have h1 := Int.emod_add_mul_ediv Z m
  have h2 := Int.emod_nonneg Z (show m ≠ 0 by omega)
  have h3 := Int.emod_lt_of_pos Z hm
  generalize Z / m = q at *
  generalize Z % m = r at *
  by_cases h : r = 0
  · left
    refine ⟨h, ((Int.ediv_emod_unique hm).2 (?_ : (0 : Int) + m * -q = -Z ∧ 0 ≤ (0 : Int) ∧ (0 : Int) < m)).1⟩
    rw [Int.mul_neg]
    omega
  · right
    refine ⟨by omega, ((Int.ediv_emod_unique hm).2 (?_ : (m - r) + m * -(q + 1) = -Z ∧ 0 ≤ m - r ∧ m - r < m)).1⟩
    rw [Int.mul_neg, Int.mul_add]
    omega

end Go.Proofs.YtfpjhobhmcfpnaaDoor
end
section
/- Plain arithmetic of gains: what a pair leaves possible, what all pairs leave, which pair is the first that leaves nothing; it speaks of no walk. -/
namespace Go.Proofs.YtfpjhobhmcfpnaaDoor
set_option linter.unusedVariables false
set_option linter.unusedSimpArgs false

/-- A pair: the value, and the ends of its reading. -/
abbrev Tri := Int × Int × Int
def okP (x : Tri) : Bool := inR x.1 && vld x.2.1 x.2.2
def gLo (x : Tri) : Int := if 0 < x.1 then flo (x.2.1 * 1000) x.1 else if x.1 < 0 then flo (x.2.2 * 1000) x.1 else if x.2.1 ≤ 0 ∧ 0 ≤ x.2.2 then -1000000000 else 1
def gHi (x : Tri) : Int := if 0 < x.1 then cei (x.2.2 * 1000) x.1 else if x.1 < 0 then cei (x.2.1 * 1000) x.1 else if x.2.1 ≤ 0 ∧ 0 ≤ x.2.2 then 1000000000 else 0
/-- What is left of the gains s behind one pair more. -/
def nar (s : Int × Int) (x : Tri) : Int × Int := (max s.1 (gLo x), min s.2 (gHi x))
def left (s : Int × Int) : List Tri → Int × Int
  | [] => s
  | x :: r => left (nar s x) r
/-- The place of the first pair with which nothing is left, or -1. -/
def first (s : Int × Int) : List Tri → Int → Int
  | [], _ => -1
  | x :: r, i => if vld (nar s x).1 (nar s x).2 = true then first (nar s x) r (i + 1) else i
theorem okP_iff {x : Tri} : okP x = true ↔ (-1000000000000000 ≤ x.1 ∧ x.1 ≤ 1000000000000000) ∧ x.2.1 ≤ x.2.2 ∧ -1000000000000000 ≤ x.2.1 ∧ x.2.2 ≤ 1000000000000000 := by
  simp [okP, inR_iff, vld_iff]

end Go.Proofs.YtfpjhobhmcfpnaaDoor
end
section
/- Package sense: contracts of down and up (quotients rounded down and up), over this seat's translation. -/
namespace Go.Proofs.YtfpjhobhmcfpnaaDoor
set_option linter.unusedVariables false
set_option linter.unusedSimpArgs false
open Go.RowKit

theorem flo_t (a b : Int) (hb : b ≠ 0) : flo a b = if a.tmod b ≠ 0 ∧ (decide (a < 0) != decide (b < 0)) = true then a.tdiv b - 1 else a.tdiv b := by
  have key : ∀ Z m : Int, 0 ≤ Z → 0 < m → Z.tdiv m = Z / m ∧ Z.tmod m = Z % m := fun Z m h0 h1 => ⟨Int.tdiv_eq_ediv_of_nonneg h0, Int.tmod_eq_emod_of_nonneg h0⟩
  by_cases h1 : a < 0 <;> by_cases h2 : b < 0
  · obtain ⟨Z, rfl⟩ : ∃ Z, a = -Z := ⟨-a, by omega⟩
    obtain ⟨m, rfl⟩ : ∃ m, b = -m := ⟨-b, by omega⟩
    obtain ⟨k1, k2⟩ := key Z m (by omega) (by omega)
    rw [Int.neg_tdiv, Int.tdiv_neg, Int.neg_tmod, Int.tmod_neg, k1, k2]
    unfold flo
    rw [if_neg (by omega), Int.neg_neg, Int.neg_neg, if_neg (fun h => absurd h.2 (by rw [decide_eq_true h1, decide_eq_true h2]; decide)), Int.neg_neg]
  · obtain ⟨Z, rfl⟩ : ∃ Z, a = -Z := ⟨-a, by omega⟩
    obtain ⟨k1, k2⟩ := key Z b (by omega) (by omega)
    rw [Int.neg_tdiv, Int.neg_tmod, k1, k2]
    unfold flo
    rw [if_pos (by omega)]
    rcases neg_quo Z b (by omega) with ⟨c, d⟩ | ⟨c, d⟩
    · rw [d, if_neg (by rw [c]; simp)]
    · rw [d, if_pos ⟨by omega, by simp [h1, h2]; try omega⟩]; omega
  · obtain ⟨m, rfl⟩ : ∃ m, b = -m := ⟨-b, by omega⟩
    obtain ⟨k1, k2⟩ := key a m (by omega) (by omega)
    rw [Int.tdiv_neg, Int.tmod_neg, k1, k2]
    unfold flo
    rw [if_neg (by omega), Int.neg_neg]
    rcases neg_quo a m (by omega) with ⟨c, d⟩ | ⟨c, d⟩
    · rw [d, if_neg (by rw [c]; simp)]
    · rw [d, if_pos ⟨by omega, by simp [h1, h2]; try omega⟩]; omega
  · obtain ⟨k1, k2⟩ := key a b (by omega) (by omega)
    rw [k1, k2]
    unfold flo
    rw [if_pos (by omega), if_neg (by simp [h1, h2])]

theorem tdiv_fit (a b : Int) (h1 : -1000000000000000000 ≤ a) (h2 : a ≤ 1000000000000000000) (hb : b ≠ 0) : (-1000000000000000000 ≤ a.tdiv b ∧ a.tdiv b ≤ 1000000000000000000) ∧ (-1000000000000000000 ≤ a.tmod b ∧ a.tmod b ≤ 1000000000000000000) := by
  have k1 := Int.natAbs_tdiv a b
  have k2 := Int.natAbs_tmod a b
  have k3 := Nat.div_le_self a.natAbs b.natAbs
  have k4 := Nat.mod_le a.natAbs b.natAbs
  have k5 : (a.tdiv b).natAbs ≤ a.natAbs := by rw [k1]; exact k3
  have k6 : (a.tmod b).natAbs ≤ a.natAbs := by rw [k2]; exact k4
  omega

theorem flo_bd (a b : Int) (h1 : -1000000000000000000 ≤ a) (h2 : a ≤ 1000000000000000000) (hb : b ≠ 0) : -1000000000000000001 ≤ flo a b ∧ flo a b ≤ 1000000000000000000 := by
  have h := tdiv_fit a b h1 h2 hb
  rw [flo_t a b hb]
  split <;> omega

set_option maxHeartbeats 1000000 in
theorem down_any (a b : Int) (w : World) (h1 : -1000000000000000000 ≤ a) (h2 : a ≤ 1000000000000000000) (b1 : -1000000000000000 ≤ b) (b2 : b ≤ 1000000000000000) (hb : b ≠ 0) :
    Calls Tryd.prog 90 #[.int .i64 a, .int .i64 b] w fun e w' => e = .returned (.int .i64 (flo a b)) ∧ w = w' := by
  obtain ⟨⟨q1, q2⟩, r1, r2⟩ := tdiv_fit a b h1 h2 hb
  have HF := Lib.hid (flo_t a b hb)
  generalize flo a b = f at *
  have hb0 : (b == 0) = false := by rw [beq_eq_false_iff_ne]; exact hb
  have hb1 : ¬b = 0 := hb
  generalize hq : a.tdiv b = q at *
  generalize hr : a.tmod b = r at *
  clear hb
  by_cases hz : r = 0
  · have hz1 : (r != 0) = false := by simp [hz]
    have HE : Hid (f = q) := Lib.hid (by rw [HF.out, if_neg (by simp [hz])])
    clear HF hz
    go_enter Tryd.func90, Tryd.ntmps90
    go_wp2
    go_ret
    exact ⟨by rw [HE.out]; rfl, rfl⟩
  · have hz1 : (r != 0) = true := by rw [bne_iff_ne]; exact hz
    by_cases ha : a < 0 <;> by_cases hb' : b < 0
    all_goals have HE : Hid (f = if (decide (a < 0) != decide (b < 0)) = true then q - 1 else q) := Lib.hid (by rw [HF.out]; simp [hz])
    all_goals simp only [ha, hb', decide_true, decide_false, bne_self_eq_false, Bool.false_eq_true, if_false, Bool.true_bne, Bool.false_bne, Bool.not_false, if_true] at HE
    all_goals clear HF hz
    all_goals go_enter Tryd.func90, Tryd.ntmps90
    all_goals go_wp2
    all_goals go_ret
    all_goals exact ⟨by rw [HE.out]; rfl, rfl⟩

set_option maxHeartbeats 1000000 in
theorem up_any (a b : Int) (w : World) (h1 : -1000000000000000000 ≤ a) (h2 : a ≤ 1000000000000000000) (b1 : -1000000000000000 ≤ b) (b2 : b ≤ 1000000000000000) (hb : b ≠ 0) :
    Calls Tryd.prog 89 #[.int .i64 a, .int .i64 b] w fun e w' => e = .returned (.int .i64 (cei a b)) ∧ w = w' := by
  have hf := flo_bd (-a) b (by omega) (by omega) hb
  have HD := Lib.hid (fun W => down_any (-a) b W (by omega) (by omega) b1 b2 hb)
  unfold cei
  clear hb
  generalize flo (-a) b = f at *
  go_enter Tryd.func89, Tryd.ntmps89
  go_wp2_with (go_at_call 90; refine (HD.out _).mono ?_; rintro e w' ⟨rfl, rfl⟩)
  go_ret
  exact ⟨rfl, rfl⟩

end Go.Proofs.YtfpjhobhmcfpnaaDoor
end
section
/- Package sense: contracts of validPair, everyGain and possibleGains, over this seat's translation. -/
namespace Go.Proofs.YtfpjhobhmcfpnaaDoor
set_option linter.unusedVariables false
set_option linter.unusedSimpArgs false
open Go.RowKit

/-- A struct of two cells behind its last store, as the one result. -/
theorem resS {fn : Func} {p : Tmp} (h : fn.results = #[.cell p 66]) (tmps : Array Value) (W : World) (b : Nat) (x y : Value)
    (hp : tmps.getD p undef = .pointer (some ⟨b, 0, none⟩)) (h0 : (W.cell? ⟨b, 0, none⟩).isSome = true) (h1 : (W.cell? ⟨b, 1, none⟩).isSome = true) :
    (results fn tmps).run Tryd.prog ((W.setCell ⟨b, 0, none⟩ x).setCell ⟨b, 1, none⟩ y) = .ok (.agg #[x, y]) ((W.setCell ⟨b, 0, none⟩ x).setCell ⟨b, 1, none⟩ y) := by
  have n1 : (⟨b, 1, none⟩ : Addr) ≠ ⟨b, 0, none⟩ := by simp
  have n0 : (⟨b, 0, none⟩ : Addr) ≠ ⟨b, 1, none⟩ := by simp
  have e1 : ((W.setCell ⟨b, 0, none⟩ x).setCell ⟨b, 1, none⟩ y).cell? ⟨b, 0, none⟩ = some x :=
    (World.cell?_setCell_other _ _ _ _ n1).trans (World.cell?_setCell_same' _ _ _ h0)
  have e2 : ((W.setCell ⟨b, 0, none⟩ x).setCell ⟨b, 1, none⟩ y).cell? ⟨b, 1, none⟩ = some y :=
    World.cell?_setCell_same' _ _ _ (by rw [World.cell?_setCell_other _ _ _ _ n0]; exact h1)
  have hp' : tmps[p]?.getD undef = .pointer (some ⟨b, 0, none⟩) := by simpa using hp
  simp only [results, h]
  simp [Sem.run_bind, Result.andThen, go_sem, hp', e1, e2]

/-- The same, behind a region. -/
theorem resF {fn : Func} {p : Tmp} (h : fn.results = #[.cell p 66]) (tmps : Array Value) (W : World) (b : Nat) (x y : Value)
    (hp : tmps.getD p undef = .pointer (some ⟨b, 0, none⟩)) (h0 : (W.cell? ⟨b, 0, none⟩).isSome = true) (h1 : (W.cell? ⟨b, 1, none⟩).isSome = true) :
    (results fn tmps).run Tryd.prog ((W.setCell ⟨b, 0, none⟩ x).setCell ⟨b, 1, none⟩ y).drew = .ok (.agg #[x, y]) ((W.setCell ⟨b, 0, none⟩ x).setCell ⟨b, 1, none⟩ y).drew := by
  have n1 : (⟨b, 1, none⟩ : Addr) ≠ ⟨b, 0, none⟩ := by simp
  have n0 : (⟨b, 0, none⟩ : Addr) ≠ ⟨b, 1, none⟩ := by simp
  have e1 : ((W.setCell ⟨b, 0, none⟩ x).setCell ⟨b, 1, none⟩ y).drew.cell? ⟨b, 0, none⟩ = some x := by
    rw [World.cell?_drew]; exact (World.cell?_setCell_other _ _ _ _ n1).trans (World.cell?_setCell_same' _ _ _ h0)
  have e2 : ((W.setCell ⟨b, 0, none⟩ x).setCell ⟨b, 1, none⟩ y).drew.cell? ⟨b, 1, none⟩ = some y := by
    rw [World.cell?_drew]; exact World.cell?_setCell_same' _ _ _ (by rw [World.cell?_setCell_other _ _ _ _ n0]; exact h1)
  have hp' : tmps[p]?.getD undef = .pointer (some ⟨b, 0, none⟩) := by simpa using hp
  simp only [results, h]
  simp [Sem.run_bind, Result.andThen, go_sem, hp', e1, e2]

/-- The same, just made. -/
theorem resP {fn : Func} {p : Tmp} (h : fn.results = #[.cell p 66]) (tmps : Array Value) (W : World) (b : Nat) (x y : Value)
    (hp : tmps.getD p undef = .pointer (some ⟨b, 0, none⟩)) (h0 : W.cell? ⟨b, 0, none⟩ = some x) (h1 : W.cell? ⟨b, 1, none⟩ = some y) :
    (results fn tmps).run Tryd.prog W = .ok (.agg #[x, y]) W := by
  have hp' : tmps[p]?.getD undef = .pointer (some ⟨b, 0, none⟩) := by simpa using hp
  simp only [results, h]
  simp [Sem.run_bind, Result.andThen, go_sem, hp', h0, h1]

/-- A pair as a value. -/
abbrev Pr (x : Tri) : Value := .agg #[.int .i64 x.1, .int .i64 x.2.1, .int .i64 x.2.2]

set_option maxHeartbeats 400000 in
theorem swithin_any (n a b : Int) (w : World) :
    Calls Tryd.prog 31 #[.int .i64 n, .int .i64 a, .int .i64 b] w fun e w' => e = .returned (.bool (wthn n a b)) ∧ w = w' := by
  go_enter Tryd.func31, Tryd.ntmps31
  go_wp2
  all_goals go_ret
  all_goals (simp [wthn]; try omega)

set_option maxHeartbeats 1000000 in
theorem validPair_any (v lo hi : Int) (w : World) :
    Calls Tryd.prog 52 #[Pr (v, lo, hi)] w (Ret (.bool (okP (v, lo, hi))) w) := by
  have e : okP (v, lo, hi) = (wthn v (-1000000000000000) 1000000000000000 && vld lo hi) := rfl
  have HE := Lib.hid e
  clear e
  by_cases h : wthn v (-1000000000000000) 1000000000000000 = true
  · go_enter Tryd.func52, Tryd.ntmps52
    go_wp2_with (first | (go_at_call 31; refine (swithin_any _ _ _ _).mono ?_; rintro e w1 ⟨rfl, rfl⟩) | (go_at_call 51; refine (valid_any _ _ _).mono ?_; rintro e w1 ⟨rfl, hb⟩; have hB : Below w.heap.size w w1 := Below.trans (by (with_reducible repeat first | exact Below.refl _ _ | assumption | ((first | refine Below.setCell ?_ ?_ _ | refine Below.alloc ?_ ?_ _); rotate_left; exact (by first | omega | (simp; done) | (simp; omega))) | refine Below.drew ?_ | refine Below_drewN ?_ _)) (hb.mono (by first | omega | (simp; done) | (simp; omega))); obtain ⟨hc, hf⟩ := bcell hb; have hs := hb.size; clear hb; (try simp only [World.size_alloc, World.size_setCell] at hc hf); (try simp only [World.size_alloc, World.size_setCell] at hs); (try have hs' := Nat.lt_of_succ_le hs); (try have hs0 : w.heap.size < w1.heap.size := by omega); (try have hs1 : w.heap.size + 1 < w1.heap.size := by omega); (try have hs2 : w.heap.size + 1 + 1 < w1.heap.size := by omega); (try have hs3 : w.heap.size + 1 + 1 + 1 < w1.heap.size := by omega); (try have iso : (w1.cell? ⟨w.heap.size, 0, none⟩).isSome = true := by (rw [hc _ _ (by first | omega | (simp; done) | (simp; omega))]; (try simp only [isSome_setCell]); first | assumption | go_simp)); (try have iso : (w1.cell? ⟨w.heap.size, 1, none⟩).isSome = true := by (rw [hc _ _ (by first | omega | (simp; done) | (simp; omega))]; (try simp only [isSome_setCell]); first | assumption | go_simp)); (try have iso : (w1.cell? ⟨w.heap.size + 1, 0, none⟩).isSome = true := by (rw [hc _ _ (by first | omega | (simp; done) | (simp; omega))]; (try simp only [isSome_setCell]); first | assumption | go_simp)); (try have iso : (w1.cell? ⟨w.heap.size + 1, 1, none⟩).isSome = true := by (rw [hc _ _ (by first | omega | (simp; done) | (simp; omega))]; (try simp only [isSome_setCell]); first | assumption | go_simp)); (try have iso : (w1.cell? ⟨w.heap.size + 1 + 1, 0, none⟩).isSome = true := by (rw [hc _ _ (by first | omega | (simp; done) | (simp; omega))]; (try simp only [isSome_setCell]); first | assumption | go_simp)); (try have iso : (w1.cell? ⟨w.heap.size + 1 + 1, 1, none⟩).isSome = true := by (rw [hc _ _ (by first | omega | (simp; done) | (simp; omega))]; (try simp only [isSome_setCell]); first | assumption | go_simp))))
    go_ret
    exact ⟨by rw [HE.out, h]; simp, by (with_reducible repeat first | exact Below.refl _ _ | assumption | ((first | refine Below.setCell ?_ ?_ _ | refine Below.alloc ?_ ?_ _); rotate_left; exact (by first | omega | (simp; done) | (simp; omega))) | refine Below.drew ?_ | refine Below_drewN ?_ _)⟩
  · have h : wthn v (-1000000000000000) 1000000000000000 = false := by simpa using h
    go_enter Tryd.func52, Tryd.ntmps52
    go_wp2_with (first | (go_at_call 31; refine (swithin_any _ _ _ _).mono ?_; rintro e w1 ⟨rfl, rfl⟩))
    go_ret
    exact ⟨by rw [HE.out, h]; simp, by (with_reducible repeat first | exact Below.refl _ _ | assumption | ((first | refine Below.setCell ?_ ?_ _ | refine Below.alloc ?_ ?_ _); rotate_left; exact (by first | omega | (simp; done) | (simp; omega))) | refine Below.drew ?_ | refine Below_drewN ?_ _)⟩

set_option maxHeartbeats 400000 in
theorem everyGain_any (w : World) :
    Calls Tryd.prog 92 #[] w (Ret (Sp (-1000000000) 1000000000) w) := by
  go_enter Tryd.func92, Tryd.ntmps92
  go_wp2_with fail
  exact bodyPost_ret (resP Tryd.results92 _ _ _ _ _ rfl (by go_simp) (by go_simp)) rfl ⟨rfl, by (with_reducible repeat first | exact Below.refl _ _ | assumption | ((first | refine Below.setCell ?_ ?_ _ | refine Below.alloc ?_ ?_ _); rotate_left; exact (by first | omega | (simp; done) | (simp; omega))) | refine Below.drew ?_ | refine Below_drewN ?_ _)⟩

end Go.Proofs.YtfpjhobhmcfpnaaDoor
end
