/- Package span: contracts of the 128-bit numbers (wide, ends), over this seat's translation. -/
import Derived.Test.YtgfajfepmflfhaaDoorSpanB
import Derived.Test.YtgfajfepmflfhaaDoorSpanP
import Derived.Laws.Externs
import Derived.Shelf.Bits.Mul64
import Derived.Deep.RegionHeld3
import Derived.Lib.Hide
namespace Go.Proofs.YtgfajfepmflfhaaDoor
set_option linter.unusedVariables false
set_option linter.unusedSimpArgs false
open Go.RowKit

theorem wrapU (n : Int) : IntKind.u64.wrap n = n % 18446744073709551616 := by rw [IntKind.wrap_u64]
theorem wrapS (n : Int) : wrap64 n = sgn64 n := by unfold wrap64 sgn64; rfl

theorem xor_not (x : Int) (h : U64 x) : bits .xor .u64 IntKind.u64.max x = not64 x := by
  obtain ⟨h0, h1⟩ := h
  unfold not64
  show bits .xor .u64 18446744073709551615 x = _
  rw [u64_xor _ _ (by omega) (by omega) h0 h1]
  have e := congrArg BitVec.toNat (BitVec.xor_allOnes (x := BitVec.ofNat 64 x.toNat))
  simp only [BitVec.toNat_xor, BitVec.toNat_not, BitVec.toNat_allOnes, BitVec.toNat_ofNat] at e
  rw [Nat.mod_eq_of_lt (by omega), Nat.xor_comm] at e
  show (((2 ^ 64 - 1) ^^^ x.toNat : Nat) : Int) = _
  rw [e]
  omega

theorem add64_call (x y c : Int) (hx : 0 ≤ x) (hy : 0 ≤ y) (hc0 : 0 ≤ c) (hc : c ≤ 1) (w : World) :
    (callFunc 63 #[.int .u64 x, .int .u64 y, .int .u64 c]).run Tryd.prog w = .ok (.value (.tuple #[.int .u64 (sum64 x y c), .int .u64 (car64 x y c)])) w := by
  rw [run_callFunc_extern Tryd.func63 (by kernel_rfl) (by kernel_rfl) (by kernel_rfl) (e := add64Entry) (by kernel_rfl), run_add64 x y c hx hy hc0 hc]
  rfl

/-- A struct of two cells, just made, as the one result. -/
theorem res2 {fn : Func} {p : Tmp} (h : fn.results = #[.cell p 49]) (tmps : Array Value) (W : World) (b : Nat) (x y : Value)
    (hp : tmps.getD p undef = .pointer (some ⟨b, 0, none⟩)) (h0 : W.cell? ⟨b, 0, none⟩ = some x) (h1 : W.cell? ⟨b, 1, none⟩ = some y) :
    (results fn tmps).run Tryd.prog W = .ok (.agg #[x, y]) W := by
  have hp' : tmps[p]?.getD undef = .pointer (some ⟨b, 0, none⟩) := by simpa using hp
  simp only [results, h]
  simp [Sem.run_bind, Result.andThen, go_sem, hp', h0, h1]

/-- The same, behind its last store. -/
theorem res2s {fn : Func} {p : Tmp} (h : fn.results = #[.cell p 49]) (tmps : Array Value) (W : World) (b : Nat) (x y : Value)
    (hp : tmps.getD p undef = .pointer (some ⟨b, 0, none⟩)) (h0 : (((W.setCell ⟨b, 0, none⟩ x).setCell ⟨b, 1, none⟩ y).cell? ⟨b, 0, none⟩).isSome = true) (h1 : (((W.setCell ⟨b, 0, none⟩ x).setCell ⟨b, 1, none⟩ y).cell? ⟨b, 1, none⟩).isSome = true) :
    (results fn tmps).run Tryd.prog ((W.setCell ⟨b, 0, none⟩ x).setCell ⟨b, 1, none⟩ y) = .ok (.agg #[x, y]) ((W.setCell ⟨b, 0, none⟩ x).setCell ⟨b, 1, none⟩ y) := by
  rw [isSome_setCell, isSome_setCell] at h0
  rw [isSome_setCell] at h1
  have n1 : (⟨b, 1, none⟩ : Addr) ≠ ⟨b, 0, none⟩ := by simp
  exact res2 h tmps _ b x y hp ((World.cell?_setCell_other _ _ _ _ n1).trans (World.cell?_setCell_same' _ _ _ h0)) (World.cell?_setCell_same' _ _ _ h1)

/-- A struct of four cells, as the one result. -/
theorem res4 {fn : Func} {p : Tmp} (h : fn.results = #[.cell p 51]) (tmps : Array Value) (W : World) (b : Nat) (x y z u : Value)
    (hp : tmps.getD p undef = .pointer (some ⟨b, 0, none⟩)) (h0 : W.cell? ⟨b, 0, none⟩ = some x) (h1 : W.cell? ⟨b, 1, none⟩ = some y) (h2 : W.cell? ⟨b, 2, none⟩ = some z) (h3 : W.cell? ⟨b, 3, none⟩ = some u) :
    (results fn tmps).run Tryd.prog W = .ok (.agg #[x, y, z, u]) W := by
  have hp' : tmps[p]?.getD undef = .pointer (some ⟨b, 0, none⟩) := by simpa using hp
  simp only [results, h]
  simp [Sem.run_bind, Result.andThen, go_sem, hp', h0, h1, h2, h3]

set_option maxHeartbeats 400000 in
theorem number_any (n : Int) (w : World) (h1 : -9223372036854775808 ≤ n) (h2 : n ≤ 9223372036854775807) :
    Calls Tryd.prog 29 #[.int .i64 n] w (Ret (.agg #[.int .u64 (hi64 n), .int .u64 (lo64 n)]) w) := by
  rw [← number_hi n h1 h2, ← number_lo n, ← wrapU n, ← wrapU]
  go_enter Tryd.func29, Tryd.ntmps29
  go_wp2
  exact bodyPost_ret (res2 Tryd.results29 _ _ _ _ _ rfl (by go_simp) (by go_simp)) rfl ⟨rfl, by (repeat first | with_reducible exact Below.refl _ _ | with_reducible assumption | (with_reducible refine Below.setCell ?_ ?_ _; rotate_left; exact (by first | omega | (simp; done) | (simp; omega))) | (with_reducible refine Below.alloc ?_ ?_ _; rotate_left; exact (by first | omega | (simp; done) | (simp; omega))) | with_reducible refine Below.drew ?_ | with_reducible refine Below_drewN ?_ _)⟩

set_option maxHeartbeats 400000 in
theorem size_any (n : Int) (w : World) (h1 : -1000000000000000 ≤ n) (h2 : n ≤ 1000000000000000) :
    Calls Tryd.prog 44 #[.int .i64 n] w fun e w' => e = .returned (.int .u64 (max n (-n))) ∧ w = w' := by
  go_enter Tryd.func44, Tryd.ntmps44
  go_wp2
  all_goals go_ret
  all_goals exact ⟨ret_int (by omega), rfl⟩

set_option maxHeartbeats 400000 in
theorem negative_any (z : Int) (w : World) (hz : Fit z) :
    Calls Tryd.prog 42 #[.agg #[.int .u64 (hi64 z), .int .u64 (lo64 z)]] w (Ret (.bool (decide (z < 0))) w) := by
  go_enter Tryd.func42, Tryd.ntmps42
  go_wp2
  go_ret
  refine ⟨ret_bool ?_, by (repeat first | with_reducible exact Below.refl _ _ | with_reducible assumption | (with_reducible refine Below.setCell ?_ ?_ _; rotate_left; exact (by first | omega | (simp; done) | (simp; omega))) | (with_reducible refine Below.alloc ?_ ?_ _; rotate_left; exact (by first | omega | (simp; done) | (simp; omega))) | with_reducible refine Below.drew ?_ | with_reducible refine Below_drewN ?_ _)⟩
  rw [wrapS, decide_eq_decide]
  exact negative_iff z hz

set_option maxHeartbeats 400000 in
theorem plus_any (y z : Int) (w : World) :
    Calls Tryd.prog 46 #[.agg #[.int .u64 (hi64 y), .int .u64 (lo64 y)], .agg #[.int .u64 (hi64 z), .int .u64 (lo64 z)]] w (Ret (.agg #[.int .u64 (hi64 (y + z)), .int .u64 (lo64 (y + z))]) w) := by
  rw [← plus_lo, ← plus_hi]
  obtain ⟨c0, c1⟩ := car64_01 (lo64 y) (lo64 z) 0 (lo64_u y) (lo64_u z) (by omega) (by omega)
  have a1 := add64_call (lo64 y) (lo64 z) 0 (lo64_nonneg y) (lo64_nonneg z) (by omega) (by omega)
  have a2 := add64_call (hi64 y) (hi64 z) (car64 (lo64 y) (lo64 z) 0) (hi64_nonneg y) (hi64_nonneg z) c0 c1
  clear c0 c1
  go_enter Tryd.func46, Tryd.ntmps46
  go_wp2
  exact bodyPost_ret (res2 Tryd.results46 _ _ _ _ _ rfl (by go_simp) (by go_simp)) rfl ⟨rfl, by (repeat first | with_reducible exact Below.refl _ _ | with_reducible assumption | (with_reducible refine Below.setCell ?_ ?_ _; rotate_left; exact (by first | omega | (simp; done) | (simp; omega))) | (with_reducible refine Below.alloc ?_ ?_ _; rotate_left; exact (by first | omega | (simp; done) | (simp; omega))) | with_reducible refine Below.drew ?_ | with_reducible refine Below_drewN ?_ _)⟩

set_option maxHeartbeats 400000 in
theorem below_any (y z : Int) (w : World) (hy : Fit y) (hz : Fit z) :
    Calls Tryd.prog 73 #[.agg #[.int .u64 (hi64 y), .int .u64 (lo64 y)], .agg #[.int .u64 (hi64 z), .int .u64 (lo64 z)]] w (Ret (.bool (decide (y < z))) w) := by
  by_cases h : hi64 y = hi64 z
  · have e := below_eq y z hy hz h
    have hb : (hi64 y != hi64 z) = false := by simp [h]
    clear hy hz h
    go_enter Tryd.func73, Tryd.ntmps73
    go_wp2
    go_ret
    exact ⟨rfl, by (repeat first | with_reducible exact Below.refl _ _ | with_reducible assumption | (with_reducible refine Below.setCell ?_ ?_ _; rotate_left; exact (by first | omega | (simp; done) | (simp; omega))) | (with_reducible refine Below.alloc ?_ ?_ _; rotate_left; exact (by first | omega | (simp; done) | (simp; omega))) | with_reducible refine Below.drew ?_ | with_reducible refine Below_drewN ?_ _)⟩
  · have e := below_ne y z hy hz h
    have hb : (hi64 y != hi64 z) = true := by simp [h]
    clear hy hz h
    go_enter Tryd.func73, Tryd.ntmps73
    go_wp2
    go_ret
    refine ⟨ret_bool ?_, by (repeat first | with_reducible exact Below.refl _ _ | with_reducible assumption | (with_reducible refine Below.setCell ?_ ?_ _; rotate_left; exact (by first | omega | (simp; done) | (simp; omega))) | (with_reducible refine Below.alloc ?_ ?_ _; rotate_left; exact (by first | omega | (simp; done) | (simp; omega))) | with_reducible refine Below.drew ?_ | with_reducible refine Below_drewN ?_ _)⟩
    rw [wrapS, wrapS, decide_eq_decide]
    exact e

set_option maxHeartbeats 400000 in
theorem only_any (a b : Int) (w : World) :
    Calls Tryd.prog 40 #[.agg #[.int .u64 a, .int .u64 b]] w (Ret (.agg #[.int .u64 a, .int .u64 b, .int .u64 a, .int .u64 b]) w) := by
  go_enter Tryd.func40, Tryd.ntmps40
  go_wp2
  exact bodyPost_ret (res4 Tryd.results40 _ _ _ _ _ _ _ rfl (by go_simp) (by go_simp) (by go_simp) (by go_simp)) rfl ⟨rfl, by (repeat first | with_reducible exact Below.refl _ _ | with_reducible assumption | (with_reducible refine Below.setCell ?_ ?_ _; rotate_left; exact (by first | omega | (simp; done) | (simp; omega))) | (with_reducible refine Below.alloc ?_ ?_ _; rotate_left; exact (by first | omega | (simp; done) | (simp; omega))) | with_reducible refine Below.drew ?_ | with_reducible refine Below_drewN ?_ _)⟩

open Go.Proofs.Mul64 in
set_option maxHeartbeats 1000000 in
theorem mul64_nat (x y : Nat) (hx : x < 18446744073709551616) (hy : y < 18446744073709551616) (w : World) :
    Calls Tryd.prog 61 #[.int .u64 x, .int .u64 y] w fun e w' => e = .returned (.tuple #[.int .u64 ((x * y / 18446744073709551616 : Nat) : Int), .int .u64 ((x * y % 18446744073709551616 : Nat) : Int)]) ∧ w = w' := by
  obtain ⟨bd, bt, bw, hhi⟩ := Lib.mul64_hi x y hx hy
  have ba := Lib.half_mul_le (a := x / 4294967296) (b := y / 4294967296) (by omega) (by omega)
  have bb := Lib.half_mul_le (a := x / 4294967296) (b := y % 4294967296) (by omega) (by omega)
  have bc := Lib.half_mul_le (a := x % 4294967296) (b := y / 4294967296) (by omega) (by omega)
  have ba' : x / 4294967296 * (y / 4294967296) < 18446744073709551616 := by omega
  have bb' : x / 4294967296 * (y % 4294967296) < 18446744073709551616 := by omega
  have bc' : x % 4294967296 * (y / 4294967296) < 18446744073709551616 := by omega
  have bh1 : x / 4294967296 * (y / 4294967296) + (x / 4294967296 * (y % 4294967296) + x % 4294967296 * (y % 4294967296) / 4294967296) / 4294967296 < 18446744073709551616 := by omega
  have bh : x / 4294967296 * (y / 4294967296) + (x / 4294967296 * (y % 4294967296) + x % 4294967296 * (y % 4294967296) / 4294967296) / 4294967296 + ((x / 4294967296 * (y % 4294967296) + x % 4294967296 * (y % 4294967296) / 4294967296) % 4294967296 + x % 4294967296 * (y / 4294967296)) / 4294967296 < 18446744073709551616 := by omega
  go_enter Tryd.func61, Tryd.ntmps61
  go_wp2
  simp only [maskN x hx, maskN y hy, divN, mulN, addN, wrapN _ bd, wrapN _ bb', wrapN _ bt, maskN _ bt, wrapN _ bc', wrapN _ bw, wrapN _ ba', wrapN _ bh1, wrapN _ bh, wrapM (x * y)]
  rw [hhi]
  go_ret2
  exact ⟨rfl, rfl⟩

theorem mul64_any (x y : Int) (hx : 0 ≤ x) (hy : 0 ≤ y) (hx' : x ≤ 1000000000000000) (hy' : y ≤ 1000000000000000) (w : World) :
    Calls Tryd.prog 61 #[.int .u64 x, .int .u64 y] w fun e w' => e = .returned (.tuple #[.int .u64 (hi64 (x * y)), .int .u64 (lo64 (x * y))]) ∧ w = w' := by
  rw [← mul_hi x y hx hy hx' hy']
  obtain ⟨a, rfl⟩ := Int.eq_ofNat_of_zero_le hx
  obtain ⟨b, rfl⟩ := Int.eq_ofNat_of_zero_le hy
  exact mul64_nat a b (by omega) (by omega) w

set_option maxHeartbeats 400000 in
theorem signed_no (z : Int) (w : World) :
    Calls Tryd.prog 43 #[.agg #[.int .u64 (hi64 z), .int .u64 (lo64 z)], .bool false] w (Ret (.agg #[.int .u64 (hi64 z), .int .u64 (lo64 z)]) w) := by
  go_enter Tryd.func43, Tryd.ntmps43
  go_wp2
  exact bodyPost_ret (res2 Tryd.results43 _ _ _ _ _ rfl (by go_simp) (by go_simp)) rfl ⟨rfl, by (repeat first | with_reducible exact Below.refl _ _ | with_reducible assumption | (with_reducible refine Below.setCell ?_ ?_ _; rotate_left; exact (by first | omega | (simp; done) | (simp; omega))) | (with_reducible refine Below.alloc ?_ ?_ _; rotate_left; exact (by first | omega | (simp; done) | (simp; omega))) | with_reducible refine Below.drew ?_ | with_reducible refine Below_drewN ?_ _)⟩

set_option maxHeartbeats 400000 in
theorem signed_yes (z : Int) (w : World) :
    Calls Tryd.prog 43 #[.agg #[.int .u64 (hi64 z), .int .u64 (lo64 z)], .bool true] w (Ret (.agg #[.int .u64 (hi64 (-z)), .int .u64 (lo64 (-z))]) w) := by
  go_enter Tryd.func43, Tryd.ntmps43
  go_wp2
  have HS : Hid (∀ w' : World, Reg (w.heap.size + 1) ((w.alloc (.cells #[.int .u64 (hi64 z), .int .u64 (lo64 z)] 49)).alloc (.cells #[.int .u64 0, .int .u64 0] 49)) w' → (Reg (w.heap.size + 1) ((w.alloc (.cells #[.int .u64 (hi64 z), .int .u64 (lo64 z)] 49)).alloc (.cells #[.int .u64 0, .int .u64 0] 49)) w' ∧ w'.cell? ⟨w.heap.size, 0, none⟩ = some (.int .u64 (hi64 z)) ∧ w'.cell? ⟨w.heap.size, 1, none⟩ = some (.int .u64 (lo64 z)) ∧ w'.cell? ⟨w.heap.size + 1, 0, none⟩ = some (cur w' ⟨w.heap.size + 1, 0, none⟩) ∧ w'.frozen? ⟨w.heap.size + 1, 0, none⟩ = false ∧ w'.cell? ⟨w.heap.size + 1, 1, none⟩ = some (cur w' ⟨w.heap.size + 1, 1, none⟩) ∧ w'.frozen? ⟨w.heap.size + 1, 1, none⟩ = false)) := (fun w' h => by (have hc := h.cells; have hs := h.some; have hf := h.frozen; refine ⟨h, ?_⟩; (try simp only [World.size_alloc, World.size_setCell, size_drew, size_drewN] at hc hs hf); first | (simp (disch := omega) only [hc, hs, hf, cur_iff]; (try go_simp); done) | (simp (disch := first | omega | (simp; done)) only [hc, hs, hf, cur_iff]; (try go_simp); done) | (simp (maxDischargeDepth := 4) [hc, hs, hf, cur_iff, go_sem]; done) | (go_simp; done) | (simp (maxDischargeDepth := 4) [hc, hs, hf, cur_iff, go_sem]; go_simp))); go_region_held3 (fun w' => Reg (w.heap.size + 1) ((w.alloc (.cells #[.int .u64 (hi64 z), .int .u64 (lo64 z)] 49)).alloc (.cells #[.int .u64 0, .int .u64 0] 49)) w' ∧ w'.cell? ⟨w.heap.size, 0, none⟩ = some (.int .u64 (hi64 z)) ∧ w'.cell? ⟨w.heap.size, 1, none⟩ = some (.int .u64 (lo64 z)) ∧ w'.cell? ⟨w.heap.size + 1, 0, none⟩ = some (cur w' ⟨w.heap.size + 1, 0, none⟩) ∧ w'.frozen? ⟨w.heap.size + 1, 0, none⟩ = false ∧ w'.cell? ⟨w.heap.size + 1, 1, none⟩ = some (cur w' ⟨w.heap.size + 1, 1, none⟩) ∧ w'.frozen? ⟨w.heap.size + 1, 1, none⟩ = false) (exact HS.out _ (by (repeat first | with_reducible exact Reg.refl _ _ | with_reducible exact Reg.drewN2 _ _ _ _ | with_reducible exact (‹Reg _ _ _ ∧ _›).1 | (with_reducible refine Reg.setCell ?_ ?_ _; rotate_left; exact (by first | omega | ((try simp only [World.size_alloc, World.size_setCell, size_drew, size_drewN]); omega) | (simp; done) | (simp; omega))) | with_reducible refine Reg.alloc ?_ _ | with_reducible refine Reg.drew ?_ | with_reducible refine Reg.drewN ?_ _ | (with_reducible apply Reg.call; rotate_left; with_reducible assumption)))) (first | (go_at_call 29; refine (number_any 1 _ (by omega) (by omega)).mono ?_; rintro e w1 ⟨rfl, hb⟩) | (go_at_call 46; rw [xor_not _ (hi64_u z), xor_not _ (lo64_u z), not_hi, not_lo]; refine (plus_any (-z - 1) 1 _).mono ?_; rintro e w1 ⟨rfl, hb⟩))
  go_wp2
  exact bodyPost_ret (res2s Tryd.results43 _ _ _ _ _ rfl (((‹Reg _ _ _ ∧ _›).1.some _ _ (by first | omega | (simp; done) | (simp; omega))).trans (by first | (simp [go_sem]; done) | go_simp)) (((‹Reg _ _ _ ∧ _›).1.some _ _ (by first | omega | (simp; done) | (simp; omega))).trans (by first | (simp [go_sem]; done) | go_simp))) rfl ⟨by simp, (Reg.out (‹Reg _ _ _ ∧ _›).1 (by (repeat first | with_reducible exact Below.refl _ _ | with_reducible assumption | (with_reducible refine Below.setCell ?_ ?_ _; rotate_left; exact (by first | omega | (simp; done) | (simp; omega))) | (with_reducible refine Below.alloc ?_ ?_ _; rotate_left; exact (by first | omega | (simp; done) | (simp; omega))) | with_reducible refine Below.drew ?_ | with_reducible refine Below_drewN ?_ _)) (by first | omega | (simp; done) | (simp; omega)))⟩

theorem signed_neg (z y : Int) (h : -z = y) (w : World) :
    Calls Tryd.prog 43 #[.agg #[.int .u64 (hi64 z), .int .u64 (lo64 z)], .bool true] w (Ret (.agg #[.int .u64 (hi64 y), .int .u64 (lo64 y)]) w) := by
  rw [← h]
  exact signed_yes z w

end Go.Proofs.YtgfajfepmflfhaaDoor
