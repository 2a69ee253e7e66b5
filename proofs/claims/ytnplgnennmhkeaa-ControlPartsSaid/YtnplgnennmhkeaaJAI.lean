import Derived.Test.YtnplgnennmhkeaaJAA
import Derived.Laws.MathBits
import Derived.Laws.Externs
import Derived.Shelf.Bits.Mul64
import Derived.Deep.RegionHeld3
import Derived.Lib.Hide
section
/- Package span and its specification: contracts of the looks (Width, Middle, Greatest, Proved), of Make and Point, over this seat's translation. -/
namespace Go.Proofs.Ytnplgnennmhkeaa
set_option linter.unusedVariables false
set_option linter.unusedSimpArgs false
open Go.RowKit

def provedL (a b : Int) : Int := if vld a b = true then max a (min b 0) else 0
def makeL (m n : Int) : Int × Int × Int := if vld (min m n) (max m n) = true then (min m n, max m n, 0) else (0, 0, 9)

theorem ret_int {k : IntKind} {a b : Int} (h : a = b) : Ending.returned (.int k a) = .returned (.int k b) := by rw [h]

set_option maxHeartbeats 400000 in
theorem proved_any (a b : Int) (w : World) :
    Calls Try.prog 74 #[Sp a b] w (Ret (.int .i64 (provedL a b)) w) := by
  by_cases hv : vld a b = true
  · obtain ⟨h1, h2, h3⟩ := vld_iff.1 hv
    go_enter Try.func74, Try.ntmps74
    go_wp2_with (go_at_call 67; refine (valid_any _ _ _).mono ?_; rintro e w1 ⟨rfl, hb⟩; have hB : Below w.heap.size w w1 := Below.trans (by (with_reducible repeat first | exact Below.refl _ _ | assumption | ((first | refine Below.setCell ?_ ?_ _ | refine Below.alloc ?_ ?_ _); rotate_left; exact (by first | omega | (simp; done) | (simp; omega))) | refine Below.drew ?_ | refine Below_drewN ?_ _)) (hb.mono (by first | omega | (simp; done) | (simp; omega))); obtain ⟨hc, hf⟩ := bcell hb; have hs := hb.size; clear hb; (try simp only [World.size_alloc, World.size_setCell] at hc hf); (try simp only [World.size_alloc, World.size_setCell] at hs); (try have hs' := Nat.lt_of_succ_le hs); (try have hs0 : w.heap.size < w1.heap.size := by omega); (try have hs1 : w.heap.size + 1 < w1.heap.size := by omega); (try have hs2 : w.heap.size + 1 + 1 < w1.heap.size := by omega); (try have hs3 : w.heap.size + 1 + 1 + 1 < w1.heap.size := by omega))
    all_goals go_ret
    all_goals refine ⟨ret_int ?_, by (with_reducible repeat first | exact Below.refl _ _ | assumption | ((first | refine Below.setCell ?_ ?_ _ | refine Below.alloc ?_ ?_ _); rotate_left; exact (by first | omega | (simp; done) | (simp; omega))) | refine Below.drew ?_ | refine Below_drewN ?_ _)⟩
    all_goals (simp [provedL, hv]; omega)
  · go_enter Try.func74, Try.ntmps74
    go_wp2_with (go_at_call 67; refine (valid_any _ _ _).mono ?_; rintro e w1 ⟨rfl, hb⟩; have hB : Below w.heap.size w w1 := Below.trans (by (with_reducible repeat first | exact Below.refl _ _ | assumption | ((first | refine Below.setCell ?_ ?_ _ | refine Below.alloc ?_ ?_ _); rotate_left; exact (by first | omega | (simp; done) | (simp; omega))) | refine Below.drew ?_ | refine Below_drewN ?_ _)) (hb.mono (by first | omega | (simp; done) | (simp; omega))); obtain ⟨hc, hf⟩ := bcell hb; have hs := hb.size; clear hb; (try simp only [World.size_alloc, World.size_setCell] at hc hf); (try simp only [World.size_alloc, World.size_setCell] at hs); (try have hs' := Nat.lt_of_succ_le hs); (try have hs0 : w.heap.size < w1.heap.size := by omega); (try have hs1 : w.heap.size + 1 < w1.heap.size := by omega); (try have hs2 : w.heap.size + 1 + 1 < w1.heap.size := by omega); (try have hs3 : w.heap.size + 1 + 1 + 1 < w1.heap.size := by omega))
    go_ret
    exact ⟨ret_int (by simp [provedL, hv]), by (with_reducible repeat first | exact Below.refl _ _ | assumption | ((first | refine Below.setCell ?_ ?_ _ | refine Below.alloc ?_ ?_ _); rotate_left; exact (by first | omega | (simp; done) | (simp; omega))) | refine Below.drew ?_ | refine Below_drewN ?_ _)⟩

set_option maxHeartbeats 400000 in
theorem make_any (m n : Int) (w : World) :
    Calls Try.prog 107 #[.int .i64 m, .int .i64 n] w (Ret (.tuple #[.agg #[.int .i64 (makeL m n).1, .int .i64 (makeL m n).2.1], .int .i64 (makeL m n).2.2]) w) := by
  rcases Int.lt_trichotomy m n with h | h | h
  · by_cases hv : vld m n = true
    · have e : makeL m n = (m, n, 0) := by unfold makeL; rw [show min m n = m by omega, show max m n = n by omega, if_pos hv]
      rw [e]
      clear e
      go_enter Try.func107, Try.ntmps107
      go_wp2_with (go_at_call 67; refine (valid_any _ _ _).mono ?_; rintro e w1 ⟨rfl, hb⟩; have hB : Below w.heap.size w w1 := Below.trans (by (with_reducible repeat first | exact Below.refl _ _ | assumption | ((first | refine Below.setCell ?_ ?_ _ | refine Below.alloc ?_ ?_ _); rotate_left; exact (by first | omega | (simp; done) | (simp; omega))) | refine Below.drew ?_ | refine Below_drewN ?_ _)) (hb.mono (by first | omega | (simp; done) | (simp; omega))); obtain ⟨hc, hf⟩ := bcell hb; have hs := hb.size; clear hb; (try simp only [World.size_alloc, World.size_setCell] at hc hf); (try simp only [World.size_alloc, World.size_setCell] at hs); (try have hs' := Nat.lt_of_succ_le hs); (try have hs0 : w.heap.size < w1.heap.size := by omega); (try have hs1 : w.heap.size + 1 < w1.heap.size := by omega); (try have hs2 : w.heap.size + 1 + 1 < w1.heap.size := by omega); (try have hs3 : w.heap.size + 1 + 1 + 1 < w1.heap.size := by omega))
      exact bodyPost_ret (res3 Try.results107 _ _ _ _ _ _ rfl rfl (by go_simp) (by go_simp)) rfl ⟨rfl, by (with_reducible repeat first | exact Below.refl _ _ | assumption | ((first | refine Below.setCell ?_ ?_ _ | refine Below.alloc ?_ ?_ _); rotate_left; exact (by first | omega | (simp; done) | (simp; omega))) | refine Below.drew ?_ | refine Below_drewN ?_ _)⟩
    · have e : makeL m n = (0, 0, 9) := by unfold makeL; rw [show min m n = m by omega, show max m n = n by omega, if_neg hv]
      rw [e]
      clear e
      go_enter Try.func107, Try.ntmps107
      go_wp2_with (go_at_call 67; refine (valid_any _ _ _).mono ?_; rintro e w1 ⟨rfl, hb⟩; have hB : Below w.heap.size w w1 := Below.trans (by (with_reducible repeat first | exact Below.refl _ _ | assumption | ((first | refine Below.setCell ?_ ?_ _ | refine Below.alloc ?_ ?_ _); rotate_left; exact (by first | omega | (simp; done) | (simp; omega))) | refine Below.drew ?_ | refine Below_drewN ?_ _)) (hb.mono (by first | omega | (simp; done) | (simp; omega))); obtain ⟨hc, hf⟩ := bcell hb; have hs := hb.size; clear hb; (try simp only [World.size_alloc, World.size_setCell] at hc hf); (try simp only [World.size_alloc, World.size_setCell] at hs); (try have hs' := Nat.lt_of_succ_le hs); (try have hs0 : w.heap.size < w1.heap.size := by omega); (try have hs1 : w.heap.size + 1 < w1.heap.size := by omega); (try have hs2 : w.heap.size + 1 + 1 < w1.heap.size := by omega); (try have hs3 : w.heap.size + 1 + 1 + 1 < w1.heap.size := by omega))
      exact bodyPost_ret (res3 Try.results107 _ _ _ _ _ _ rfl rfl (by go_simp) (by go_simp)) rfl ⟨rfl, by (with_reducible repeat first | exact Below.refl _ _ | assumption | ((first | refine Below.setCell ?_ ?_ _ | refine Below.alloc ?_ ?_ _); rotate_left; exact (by first | omega | (simp; done) | (simp; omega))) | refine Below.drew ?_ | refine Below_drewN ?_ _)⟩
  · subst h
    by_cases hv : vld m m = true
    · have e : makeL m m = (m, m, 0) := by unfold makeL; rw [show min m m = m by omega, show max m m = m by omega, if_pos hv]
      rw [e]
      clear e
      go_enter Try.func107, Try.ntmps107
      go_wp2_with (go_at_call 67; refine (valid_any _ _ _).mono ?_; rintro e w1 ⟨rfl, hb⟩; have hB : Below w.heap.size w w1 := Below.trans (by (with_reducible repeat first | exact Below.refl _ _ | assumption | ((first | refine Below.setCell ?_ ?_ _ | refine Below.alloc ?_ ?_ _); rotate_left; exact (by first | omega | (simp; done) | (simp; omega))) | refine Below.drew ?_ | refine Below_drewN ?_ _)) (hb.mono (by first | omega | (simp; done) | (simp; omega))); obtain ⟨hc, hf⟩ := bcell hb; have hs := hb.size; clear hb; (try simp only [World.size_alloc, World.size_setCell] at hc hf); (try simp only [World.size_alloc, World.size_setCell] at hs); (try have hs' := Nat.lt_of_succ_le hs); (try have hs0 : w.heap.size < w1.heap.size := by omega); (try have hs1 : w.heap.size + 1 < w1.heap.size := by omega); (try have hs2 : w.heap.size + 1 + 1 < w1.heap.size := by omega); (try have hs3 : w.heap.size + 1 + 1 + 1 < w1.heap.size := by omega))
      exact bodyPost_ret (res3 Try.results107 _ _ _ _ _ _ rfl rfl (by go_simp) (by go_simp)) rfl ⟨rfl, by (with_reducible repeat first | exact Below.refl _ _ | assumption | ((first | refine Below.setCell ?_ ?_ _ | refine Below.alloc ?_ ?_ _); rotate_left; exact (by first | omega | (simp; done) | (simp; omega))) | refine Below.drew ?_ | refine Below_drewN ?_ _)⟩
    · have e : makeL m m = (0, 0, 9) := by unfold makeL; rw [show min m m = m by omega, show max m m = m by omega, if_neg hv]
      rw [e]
      clear e
      go_enter Try.func107, Try.ntmps107
      go_wp2_with (go_at_call 67; refine (valid_any _ _ _).mono ?_; rintro e w1 ⟨rfl, hb⟩; have hB : Below w.heap.size w w1 := Below.trans (by (with_reducible repeat first | exact Below.refl _ _ | assumption | ((first | refine Below.setCell ?_ ?_ _ | refine Below.alloc ?_ ?_ _); rotate_left; exact (by first | omega | (simp; done) | (simp; omega))) | refine Below.drew ?_ | refine Below_drewN ?_ _)) (hb.mono (by first | omega | (simp; done) | (simp; omega))); obtain ⟨hc, hf⟩ := bcell hb; have hs := hb.size; clear hb; (try simp only [World.size_alloc, World.size_setCell] at hc hf); (try simp only [World.size_alloc, World.size_setCell] at hs); (try have hs' := Nat.lt_of_succ_le hs); (try have hs0 : w.heap.size < w1.heap.size := by omega); (try have hs1 : w.heap.size + 1 < w1.heap.size := by omega); (try have hs2 : w.heap.size + 1 + 1 < w1.heap.size := by omega); (try have hs3 : w.heap.size + 1 + 1 + 1 < w1.heap.size := by omega))
      exact bodyPost_ret (res3 Try.results107 _ _ _ _ _ _ rfl rfl (by go_simp) (by go_simp)) rfl ⟨rfl, by (with_reducible repeat first | exact Below.refl _ _ | assumption | ((first | refine Below.setCell ?_ ?_ _ | refine Below.alloc ?_ ?_ _); rotate_left; exact (by first | omega | (simp; done) | (simp; omega))) | refine Below.drew ?_ | refine Below_drewN ?_ _)⟩
  · by_cases hv : vld n m = true
    · have e : makeL m n = (n, m, 0) := by unfold makeL; rw [show min m n = n by omega, show max m n = m by omega, if_pos hv]
      rw [e]
      clear e
      go_enter Try.func107, Try.ntmps107
      go_wp2_with (go_at_call 67; refine (valid_any _ _ _).mono ?_; rintro e w1 ⟨rfl, hb⟩; have hB : Below w.heap.size w w1 := Below.trans (by (with_reducible repeat first | exact Below.refl _ _ | assumption | ((first | refine Below.setCell ?_ ?_ _ | refine Below.alloc ?_ ?_ _); rotate_left; exact (by first | omega | (simp; done) | (simp; omega))) | refine Below.drew ?_ | refine Below_drewN ?_ _)) (hb.mono (by first | omega | (simp; done) | (simp; omega))); obtain ⟨hc, hf⟩ := bcell hb; have hs := hb.size; clear hb; (try simp only [World.size_alloc, World.size_setCell] at hc hf); (try simp only [World.size_alloc, World.size_setCell] at hs); (try have hs' := Nat.lt_of_succ_le hs); (try have hs0 : w.heap.size < w1.heap.size := by omega); (try have hs1 : w.heap.size + 1 < w1.heap.size := by omega); (try have hs2 : w.heap.size + 1 + 1 < w1.heap.size := by omega); (try have hs3 : w.heap.size + 1 + 1 + 1 < w1.heap.size := by omega))
      exact bodyPost_ret (res3 Try.results107 _ _ _ _ _ _ rfl rfl (by go_simp) (by go_simp)) rfl ⟨rfl, by (with_reducible repeat first | exact Below.refl _ _ | assumption | ((first | refine Below.setCell ?_ ?_ _ | refine Below.alloc ?_ ?_ _); rotate_left; exact (by first | omega | (simp; done) | (simp; omega))) | refine Below.drew ?_ | refine Below_drewN ?_ _)⟩
    · have e : makeL m n = (0, 0, 9) := by unfold makeL; rw [show min m n = n by omega, show max m n = m by omega, if_neg hv]
      rw [e]
      clear e
      go_enter Try.func107, Try.ntmps107
      go_wp2_with (go_at_call 67; refine (valid_any _ _ _).mono ?_; rintro e w1 ⟨rfl, hb⟩; have hB : Below w.heap.size w w1 := Below.trans (by (with_reducible repeat first | exact Below.refl _ _ | assumption | ((first | refine Below.setCell ?_ ?_ _ | refine Below.alloc ?_ ?_ _); rotate_left; exact (by first | omega | (simp; done) | (simp; omega))) | refine Below.drew ?_ | refine Below_drewN ?_ _)) (hb.mono (by first | omega | (simp; done) | (simp; omega))); obtain ⟨hc, hf⟩ := bcell hb; have hs := hb.size; clear hb; (try simp only [World.size_alloc, World.size_setCell] at hc hf); (try simp only [World.size_alloc, World.size_setCell] at hs); (try have hs' := Nat.lt_of_succ_le hs); (try have hs0 : w.heap.size < w1.heap.size := by omega); (try have hs1 : w.heap.size + 1 < w1.heap.size := by omega); (try have hs2 : w.heap.size + 1 + 1 < w1.heap.size := by omega); (try have hs3 : w.heap.size + 1 + 1 + 1 < w1.heap.size := by omega))
      exact bodyPost_ret (res3 Try.results107 _ _ _ _ _ _ rfl rfl (by go_simp) (by go_simp)) rfl ⟨rfl, by (with_reducible repeat first | exact Below.refl _ _ | assumption | ((first | refine Below.setCell ?_ ?_ _ | refine Below.alloc ?_ ?_ _); rotate_left; exact (by first | omega | (simp; done) | (simp; omega))) | refine Below.drew ?_ | refine Below_drewN ?_ _)⟩

end Go.Proofs.Ytnplgnennmhkeaa
end
section
/- Plain arithmetic of two's complement numbers of 128 bits; it imports nothing of the program. -/
namespace Go.Proofs.Ytnplgnennmhkeaa
set_option linter.unusedVariables false
set_option linter.unusedSimpArgs false

/-- The high and the low half of a number in two's complement of 128 bits. -/
def hi64 (z : Int) : Int := z / 18446744073709551616 % 18446744073709551616
def lo64 (z : Int) : Int := z % 18446744073709551616
/-- z is far from the ends of 128 bits. -/
def Fit (z : Int) : Prop := -10000000000000000000000000000000000 ≤ z ∧ z ≤ 10000000000000000000000000000000000
theorem number_hi (n : Int) (h1 : -9223372036854775808 ≤ n) (h2 : n ≤ 9223372036854775807) : n / 9223372036854775808 % 18446744073709551616 = hi64 n := by unfold hi64; omega
theorem number_lo (n : Int) : n % 18446744073709551616 = lo64 n := rfl
/-- x as a number with a sign. -/
def sgn64 (x : Int) : Int := (x + 9223372036854775808) % 18446744073709551616 - 9223372036854775808
theorem sgn_hi (z : Int) (h : Fit z) : sgn64 (hi64 z) = z / 18446744073709551616 := by unfold Fit at h; unfold sgn64 hi64; omega
theorem sgn_lo (n : Int) (h1 : -9223372036854775808 ≤ n) (h2 : n ≤ 9223372036854775807) : sgn64 (lo64 n) = n := by unfold sgn64 lo64; omega
theorem below_ne (y z : Int) (hy : Fit y) (hz : Fit z) (h : hi64 y ≠ hi64 z) : sgn64 (hi64 y) < sgn64 (hi64 z) ↔ y < z := by
  rw [sgn_hi y hy, sgn_hi z hz]; unfold Fit at hy hz; unfold hi64 at h; omega
theorem below_eq (y z : Int) (hy : Fit y) (hz : Fit z) (h : hi64 y = hi64 z) : lo64 y < lo64 z ↔ y < z := by
  unfold Fit at hy hz; unfold hi64 at h; unfold lo64; omega
theorem same_iff (y z : Int) (hy : Fit y) (hz : Fit z) : (hi64 y = hi64 z ∧ lo64 y = lo64 z) ↔ y = z := by
  unfold Fit at hy hz; unfold hi64 lo64; constructor
  · intro h; omega
  · intro h; rw [h]; exact ⟨rfl, rfl⟩
theorem sgn_range (x : Int) : -9223372036854775808 ≤ sgn64 x ∧ sgn64 x ≤ 9223372036854775807 := by unfold sgn64; omega
/-- A quotient rounded down, and rounded up. -/
def flo (x d : Int) : Int := if 0 < d then x / d else (-x) / (-d)
def cei (x d : Int) : Int := -(flo (-x) d)

end Go.Proofs.Ytnplgnennmhkeaa
end
section
/- Package span: contracts of the 128-bit numbers (wide, ends), over this seat's translation. -/
namespace Go.Proofs.Ytnplgnennmhkeaa
set_option linter.unusedVariables false
set_option linter.unusedSimpArgs false
open Go.RowKit

theorem wrapU (n : Int) : IntKind.u64.wrap n = n % 18446744073709551616 := by rw [IntKind.wrap_u64]
theorem wrapS (n : Int) : wrap64 n = sgn64 n := by unfold wrap64 sgn64; rfl

/-- A struct of two cells, just made, as the one result. -/
theorem res2 {fn : Func} {p : Tmp} (h : fn.results = #[.cell p 116]) (tmps : Array Value) (W : World) (b : Nat) (x y : Value)
    (hp : tmps.getD p undef = .pointer (some ⟨b, 0, none⟩)) (h0 : W.cell? ⟨b, 0, none⟩ = some x) (h1 : W.cell? ⟨b, 1, none⟩ = some y) :
    (results fn tmps).run Try.prog W = .ok (.agg #[x, y]) W := by
  have hp' : tmps[p]?.getD undef = .pointer (some ⟨b, 0, none⟩) := by simpa using hp
  simp only [results, h]
  simp [Sem.run_bind, Result.andThen, go_sem, hp', h0, h1]

/-- A struct of four cells, as the one result. -/
theorem res4 {fn : Func} {p : Tmp} (h : fn.results = #[.cell p 118]) (tmps : Array Value) (W : World) (b : Nat) (x y z u : Value)
    (hp : tmps.getD p undef = .pointer (some ⟨b, 0, none⟩)) (h0 : W.cell? ⟨b, 0, none⟩ = some x) (h1 : W.cell? ⟨b, 1, none⟩ = some y) (h2 : W.cell? ⟨b, 2, none⟩ = some z) (h3 : W.cell? ⟨b, 3, none⟩ = some u) :
    (results fn tmps).run Try.prog W = .ok (.agg #[x, y, z, u]) W := by
  have hp' : tmps[p]?.getD undef = .pointer (some ⟨b, 0, none⟩) := by simpa using hp
  simp only [results, h]
  simp [Sem.run_bind, Result.andThen, go_sem, hp', h0, h1, h2, h3]

set_option maxHeartbeats 400000 in
theorem number_any (n : Int) (w : World) (h1 : -9223372036854775808 ≤ n) (h2 : n ≤ 9223372036854775807) :
    Calls Try.prog 71 #[.int .i64 n] w (Ret (.agg #[.int .u64 (hi64 n), .int .u64 (lo64 n)]) w) := by
  rw [← number_hi n h1 h2, ← number_lo n, ← wrapU n, ← wrapU]
  go_enter Try.func71, Try.ntmps71
  go_wp2
  exact bodyPost_ret (res2 Try.results71 _ _ _ _ _ rfl (by go_simp) (by go_simp)) rfl ⟨rfl, by (with_reducible repeat first | exact Below.refl _ _ | assumption | ((first | refine Below.setCell ?_ ?_ _ | refine Below.alloc ?_ ?_ _); rotate_left; exact (by first | omega | (simp; done) | (simp; omega))) | refine Below.drew ?_ | refine Below_drewN ?_ _)⟩

set_option maxHeartbeats 400000 in
theorem below_any (y z : Int) (w : World) (hy : Fit y) (hz : Fit z) :
    Calls Try.prog 109 #[.agg #[.int .u64 (hi64 y), .int .u64 (lo64 y)], .agg #[.int .u64 (hi64 z), .int .u64 (lo64 z)]] w (Ret (.bool (decide (y < z))) w) := by
  by_cases h : hi64 y = hi64 z
  · have e := below_eq y z hy hz h
    have hb : (hi64 y != hi64 z) = false := by simp [h]
    clear hy hz h
    go_enter Try.func109, Try.ntmps109
    go_wp2
    go_ret
    exact ⟨rfl, by (with_reducible repeat first | exact Below.refl _ _ | assumption | ((first | refine Below.setCell ?_ ?_ _ | refine Below.alloc ?_ ?_ _); rotate_left; exact (by first | omega | (simp; done) | (simp; omega))) | refine Below.drew ?_ | refine Below_drewN ?_ _)⟩
  · have e := below_ne y z hy hz h
    have hb : (hi64 y != hi64 z) = true := by simp [h]
    clear hy hz h
    go_enter Try.func109, Try.ntmps109
    go_wp2
    go_ret
    refine ⟨ret_bool ?_, by (with_reducible repeat first | exact Below.refl _ _ | assumption | ((first | refine Below.setCell ?_ ?_ _ | refine Below.alloc ?_ ?_ _); rotate_left; exact (by first | omega | (simp; done) | (simp; omega))) | refine Below.drew ?_ | refine Below_drewN ?_ _)⟩
    rw [wrapS, wrapS, decide_eq_decide]
    exact e

set_option maxHeartbeats 400000 in
theorem only_any (a b : Int) (w : World) :
    Calls Try.prog 70 #[.agg #[.int .u64 a, .int .u64 b]] w (Ret (.agg #[.int .u64 a, .int .u64 b, .int .u64 a, .int .u64 b]) w) := by
  go_enter Try.func70, Try.ntmps70
  go_wp2
  exact bodyPost_ret (res4 Try.results70 _ _ _ _ _ _ _ rfl (by go_simp) (by go_simp) (by go_simp) (by go_simp)) rfl ⟨rfl, by (with_reducible repeat first | exact Below.refl _ _ | assumption | ((first | refine Below.setCell ?_ ?_ _ | refine Below.alloc ?_ ?_ _); rotate_left; exact (by first | omega | (simp; done) | (simp; omega))) | refine Below.drew ?_ | refine Below_drewN ?_ _)⟩

end Go.Proofs.Ytnplgnennmhkeaa
end
