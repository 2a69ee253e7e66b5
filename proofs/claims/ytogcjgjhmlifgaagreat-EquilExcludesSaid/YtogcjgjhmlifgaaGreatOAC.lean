import Derived.Test.YtogcjgjhmlifgaaGreatOAA
import Derived.Laws.MathBits
import Derived.Laws.Externs
import Derived.Shelf.Bits.Mul64
import Derived.Deep.RegionHeld3
import Derived.Lib.Hide
import Derived.Deep.DeepCutAuto
import Derived.Deep.QuietTactic
import Derived.BigQuiet
import Derived.Shelf.Abstract
namespace Go.Proofs.YtogcjgjhmlifgaaGreat
set_option linter.unusedVariables false
set_option linter.unusedSimpArgs false
section
def hi64 (z : Int) : Int := z / 18446744073709551616 % 18446744073709551616
def lo64 (z : Int) : Int := z % 18446744073709551616
def Fit (z : Int) : Prop := -10000000000000000000000000000000000 ≤ z ∧ z ≤ 10000000000000000000000000000000000
def U64 (x : Int) : Prop := 0 ≤ x ∧ x < 18446744073709551616
theorem hi64_u (z : Int) : U64 (hi64 z) := by unfold U64 hi64; omega
theorem lo64_u (z : Int) : U64 (lo64 z) := by unfold U64 lo64; omega
theorem hi64_nonneg (z : Int) : 0 ≤ hi64 z := (hi64_u z).1
theorem lo64_nonneg (z : Int) : 0 ≤ lo64 z := (lo64_u z).1
theorem mul_hi (x y : Int) (hx : 0 ≤ x) (hy : 0 ≤ y) (hx' : x ≤ 1000000000000000) (hy' : y ≤ 1000000000000000) : x * y / 18446744073709551616 = hi64 (x * y) := by
  have h0 : 0 ≤ x * y := Int.mul_nonneg hx hy
  have h1 : x * y ≤ 1000000000000000 * 1000000000000000 := Int.mul_le_mul hx' hy' hy (by omega)
  generalize x * y = p at *
  unfold hi64; omega
end
section
open Go.RowKit
open Go.Proofs.Mul64 in
set_option maxHeartbeats 1000000 in
theorem mul64_nat (x y : Nat) (hx : x < 18446744073709551616) (hy : y < 18446744073709551616) (w : World) :
    Calls Tryz.prog 161 #[.int .u64 x, .int .u64 y] w fun e w' => e = .returned (.tuple #[.int .u64 ((x * y / 18446744073709551616 : Nat) : Int), .int .u64 ((x * y % 18446744073709551616 : Nat) : Int)]) ∧ w = w' := by
  obtain ⟨bd, bt, bw, hhi⟩ := Lib.mul64_hi x y hx hy
  have ba := Lib.half_mul_le (a := x / 4294967296) (b := y / 4294967296) (by omega) (by omega)
  have bb := Lib.half_mul_le (a := x / 4294967296) (b := y % 4294967296) (by omega) (by omega)
  have bc := Lib.half_mul_le (a := x % 4294967296) (b := y / 4294967296) (by omega) (by omega)
  have ba' : x / 4294967296 * (y / 4294967296) < 18446744073709551616 := by omega
  have bb' : x / 4294967296 * (y % 4294967296) < 18446744073709551616 := by omega
  have bc' : x % 4294967296 * (y / 4294967296) < 18446744073709551616 := by omega
  have bh1 : x / 4294967296 * (y / 4294967296) + (x / 4294967296 * (y % 4294967296) + x % 4294967296 * (y % 4294967296) / 4294967296) / 4294967296 < 18446744073709551616 := by omega
  have bh : x / 4294967296 * (y / 4294967296) + (x / 4294967296 * (y % 4294967296) + x % 4294967296 * (y % 4294967296) / 4294967296) / 4294967296 + ((x / 4294967296 * (y % 4294967296) + x % 4294967296 * (y % 4294967296) / 4294967296) % 4294967296 + x % 4294967296 * (y / 4294967296)) / 4294967296 < 18446744073709551616 := by omega
  go_enter Tryz.func161, Tryz.ntmps161
  go_wp2
  simp only [maskN x hx, maskN y hy, divN, mulN, addN, wrapN _ bd, wrapN _ bb', wrapN _ bt, maskN _ bt, wrapN _ bc', wrapN _ bw, wrapN _ ba', wrapN _ bh1, wrapN _ bh, wrapM (x * y)]
  rw [hhi]
  go_ret2
  exact ⟨rfl, rfl⟩
theorem mul64_any (x y : Int) (hx : 0 ≤ x) (hy : 0 ≤ y) (hx' : x ≤ 1000000000000000) (hy' : y ≤ 1000000000000000) (w : World) :
    Calls Tryz.prog 161 #[.int .u64 x, .int .u64 y] w fun e w' => e = .returned (.tuple #[.int .u64 (hi64 (x * y)), .int .u64 (lo64 (x * y))]) ∧ w = w' := by
  rw [← mul_hi x y hx hy hx' hy']
  obtain ⟨a, rfl⟩ := Int.eq_ofNat_of_zero_le hx
  obtain ⟨b, rfl⟩ := Int.eq_ofNat_of_zero_le hy
  exact mul64_nat a b (by omega) (by omega) w
end
section
open Go.RowKit
end
section
open Go.RowKit
end
section
open Go.RowKit
def DivR (v : Value) (w : World) (e : Ending) (w' : World) : Prop := e = .returned v ∧ ∃ n, w' = w.drewN n
end
section
open Go.RowKit
theorem Fit.min {x y : Int} (hx : Fit x) (hy : Fit y) : Fit (Min.min x y) := by unfold Fit at *; omega
theorem Fit.max {x y : Int} (hx : Fit x) (hy : Fit y) : Fit (Max.max x y) := by unfold Fit at *; omega
end
section
open Go.RowKit Go.Shelf
end
section
open Go.RowKit Go.Shelf
end
section
open Go.RowKit Go.Shelf
end
section
open Go.RowKit Go.Shelf
def allV (l : List (Int × Int)) : Bool := l.all fun p => vld p.1 p.2
theorem allV_snoc (l : List (Int × Int)) (p : Int × Int) : allV (l ++ [p]) = (allV l && vld p.1 p.2) := by simp [allV]
set_option maxHeartbeats 1000000 in
theorem allValid1_any (s : Bool) (i a b : Int) (w : World) :
    Calls Tryz.prog 174 #[.bool s, .int .i64 i, Sp a b] w (Ret (.bool (s && vld a b)) w) := by
  cases s
  · go_enter Tryz.func174, Tryz.ntmps174
    go_wp2_with (go_at_call 96; refine (valid_any _ _ _).mono ?_; rintro e w1 ⟨rfl, hb⟩; have hB : Below w.heap.size w w1 := Below.trans (by (with_reducible repeat first | exact Below.refl _ _ | assumption | ((first | refine Below.setCell ?_ ?_ _ | refine Below.alloc ?_ ?_ _); rotate_left; exact (by first | omega | (simp; done) | (simp; omega))) | refine Below.drew ?_ | refine Below_drewN ?_ _)) (hb.mono (by first | omega | (simp; done) | (simp; omega))); obtain ⟨hc, hf⟩ := bcell hb; have hs := hb.size; clear hb; (try simp only [World.size_alloc, World.size_setCell] at hc hf); (try simp only [World.size_alloc, World.size_setCell] at hs); (try have hs' := Nat.lt_of_succ_le hs); (try have hs0 : w.heap.size < w1.heap.size := by omega); (try have hs1 : w.heap.size + 1 < w1.heap.size := by omega); (try have hs2 : w.heap.size + 1 + 1 < w1.heap.size := by omega); (try have hs3 : w.heap.size + 1 + 1 + 1 < w1.heap.size := by omega))
    go_ret
    exact ⟨rfl, by (with_reducible repeat first | exact Below.refl _ _ | assumption | ((first | refine Below.setCell ?_ ?_ _ | refine Below.alloc ?_ ?_ _); rotate_left; exact (by first | omega | (simp; done) | (simp; omega))) | refine Below.drew ?_ | refine Below_drewN ?_ _)⟩
  · go_enter Tryz.func174, Tryz.ntmps174
    go_wp2_with (go_at_call 96; refine (valid_any _ _ _).mono ?_; rintro e w1 ⟨rfl, hb⟩; have hB : Below w.heap.size w w1 := Below.trans (by (with_reducible repeat first | exact Below.refl _ _ | assumption | ((first | refine Below.setCell ?_ ?_ _ | refine Below.alloc ?_ ?_ _); rotate_left; exact (by first | omega | (simp; done) | (simp; omega))) | refine Below.drew ?_ | refine Below_drewN ?_ _)) (hb.mono (by first | omega | (simp; done) | (simp; omega))); obtain ⟨hc, hf⟩ := bcell hb; have hs := hb.size; clear hb; (try simp only [World.size_alloc, World.size_setCell] at hc hf); (try simp only [World.size_alloc, World.size_setCell] at hs); (try have hs' := Nat.lt_of_succ_le hs); (try have hs0 : w.heap.size < w1.heap.size := by omega); (try have hs1 : w.heap.size + 1 < w1.heap.size := by omega); (try have hs2 : w.heap.size + 1 + 1 < w1.heap.size := by omega); (try have hs3 : w.heap.size + 1 + 1 + 1 < w1.heap.size := by omega))
    go_ret
    exact ⟨rfl, by (with_reducible repeat first | exact Below.refl _ _ | assumption | ((first | refine Below.setCell ?_ ?_ _ | refine Below.alloc ?_ ?_ _); rotate_left; exact (by first | omega | (simp; done) | (simp; omega))) | refine Below.drew ?_ | refine Below_drewN ?_ _)⟩
def SpCells (w : World) (ab ao len : Nat) (zs : List (Int × Int)) : Prop :=
  ∀ j, j < len → w.cell? ⟨ab, ao + j * 2, none⟩ = some (.int .i64 (zs.getD j (0, 0)).1) ∧ w.cell? ⟨ab, ao + j * 2 + 1, none⟩ = some (.int .i64 (zs.getD j (0, 0)).2)
theorem SpCells.below {w w1 : World} {ab ao len : Nat} {zs : List (Int × Int)} (h : SpCells w ab ao len zs) (hab : ab < w.heap.size) (hb : Below w.heap.size w w1) : SpCells w1 ab ao len zs :=
  fun j hj => ⟨(hb.cell (p := ⟨ab, _, none⟩) hab).trans (h j hj).1, (hb.cell (p := ⟨ab, _, none⟩) hab).trans (h j hj).2⟩
set_option maxHeartbeats 2000000 in
theorem foldV_any (ab ao len cap : Nat) (zs : List (Int × Int)) (w : World) (hlen : zs.length = len) (hl : len ≤ 1000000000000000) (hab : ab < w.heap.size) (hz : SpCells w ab ao len zs) :
    Calls Tryz.prog 173 #[.slice (some ⟨ab, ao, none⟩) len cap, .bool true, .func (.func 174) #[] #[]] w (Ret (.bool (allV zs)) w) := by
  have HZ := Lib.hid hz
  have HL := Lib.hid hlen
  clear hz hlen
  go_enter Tryz.func173, Tryz.ntmps173
  go_wp2_with fail
  go_loopw [1, 7, 8, 11] (fun s _ _ i wr => ∃ j : Nat, j ≤ len ∧ i = .int .i64 j ∧ s = .bool (allV (zs.take j)) ∧ Below w.heap.size w wr) (fun _ _ _ i _ => len - (intOf i).toNat)
  case atStart => exact ⟨0, Nat.zero_le _, rfl, rfl, Below.refl _ _⟩
  case round =>
    obtain ⟨j, hj, rfl, rfl, hB⟩ := hrel
    by_cases hlt : j < len
    · obtain ⟨c0, c1⟩ := HZ.out.below hab hB j hlt
      have hsn : allV (zs.take (j + 1)) = (allV (zs.take j) && vld (zs.getD j (0, 0)).1 (zs.getD j (0, 0)).2) := by
        have hjl : j < zs.length := by rw [HL.out]; exact hlt
        rw [List.take_succ_eq_append_getElem hjl, allV_snoc, List.getD_eq_getElem?_getD, List.getElem?_eq_getElem hjl]
        rfl
      have HSN := Lib.hid hsn
      clear hsn
      have hsz := hB.size
      generalize allV (zs.take j) = v at *
      generalize (zs.getD j (0, 0)).1 = x at *
      generalize (zs.getD j (0, 0)).2 = y at *
      go_wp2_with ((with_reducible show Calls _ 174 _ _ _); refine (allValid1_any _ _ _ _ _).mono ?_; rintro e w1 ⟨rfl, hb⟩; have hB1 : Below w.heap.size w w1 := Below.trans (by (with_reducible repeat first | exact Below.refl _ _ | assumption | ((first | refine Below.setCell ?_ ?_ _ | refine Below.alloc ?_ ?_ _); rotate_left; exact (by first | omega | (simp; done) | (simp; omega))) | refine Below.drew ?_ | refine Below_drewN ?_ _)) (hb.mono (by first | omega | ((try simp only [World.size_alloc, World.size_setCell, size_drew, size_drewN]); omega) | (simp; done) | (simp; omega))))
      go_roundw
      case rel => exact ⟨j + 1, by omega, by go_num, by rw [HSN.out], by (with_reducible repeat first | exact Below.refl _ _ | assumption | ((first | refine Below.setCell ?_ ?_ _ | refine Below.alloc ?_ ?_ _); rotate_left; exact (by first | omega | (simp; done) | (simp; omega))) | refine Below.drew ?_ | refine Below_drewN ?_ _)⟩
      case measure => simp [intOf]; omega
    · have hjl : j = len := by omega
      have e : zs.take j = zs := by rw [hjl, ← HL.out]; exact List.take_length
      have HE := Lib.hid e
      clear e hjl
      go_wp2
      go_ret
      exact ⟨by rw [HE.out]; rfl, hB⟩
end
section
open Go.RowKit Go.Shelf
theorem res2p {fn : Func} {p : Tmp} (h : fn.results = #[.cell p 52]) (tmps : Array Value) (W : World) (b : Nat) (x y : Value)
    (hp : tmps.getD p undef = .pointer (some ⟨b, 0, none⟩)) (h0 : W.cell? ⟨b, 0, none⟩ = some x) (h1 : W.cell? ⟨b, 1, none⟩ = some y) :
    (results fn tmps).run Tryz.prog W = .ok (.agg #[x, y]) W := by
  have hp' : tmps[p]?.getD undef = .pointer (some ⟨b, 0, none⟩) := by simpa using hp
  simp only [results, h]
  simp [Sem.run_bind, Result.andThen, go_sem, hp', h0, h1]
theorem res2ps {fn : Func} {p : Tmp} (h : fn.results = #[.cell p 52]) (tmps : Array Value) (W : World) (b : Nat) (x y : Value)
    (hp : tmps.getD p undef = .pointer (some ⟨b, 0, none⟩)) (h0 : (((W.setCell ⟨b, 0, none⟩ x).setCell ⟨b, 1, none⟩ y).cell? ⟨b, 0, none⟩).isSome = true) (h1 : (((W.setCell ⟨b, 0, none⟩ x).setCell ⟨b, 1, none⟩ y).cell? ⟨b, 1, none⟩).isSome = true) :
    (results fn tmps).run Tryz.prog ((W.setCell ⟨b, 0, none⟩ x).setCell ⟨b, 1, none⟩ y) = .ok (.agg #[x, y]) ((W.setCell ⟨b, 0, none⟩ x).setCell ⟨b, 1, none⟩ y) := by
  rw [isSome_setCell, isSome_setCell] at h0
  rw [isSome_setCell] at h1
  have n1 : (⟨b, 1, none⟩ : Addr) ≠ ⟨b, 0, none⟩ := by simp
  exact res2p h tmps _ b x y hp ((World.cell?_setCell_other _ _ _ _ n1).trans (World.cell?_setCell_same' _ _ _ h0)) (World.cell?_setCell_same' _ _ _ h1)
set_option maxHeartbeats 1000000 in
theorem max1_any (a b i c d : Int) (w : World) :
    Calls Tryz.prog 156 #[Sp a b, .int .i64 i, Sp c d] w (Ret (Sp (max a c) (max b d)) w) := by
  rcases Int.lt_trichotomy a c with h1 | h1 | h1 <;> rcases Int.lt_trichotomy b d with h2 | h2 | h2
  all_goals (try subst h1)
  all_goals (try subst h2)
  all_goals first | rw [show max a c = c by omega] | rw [show max a c = a by omega] | rw [show max a a = a by omega]
  all_goals first | rw [show max b d = d by omega] | rw [show max b d = b by omega] | rw [show max b b = b by omega]
  all_goals go_enter Tryz.func156, Tryz.ntmps156
  all_goals go_wp2_with fail
  all_goals exact bodyPost_ret (res2p Tryz.results156 _ _ _ _ _ rfl (by go_simp) (by go_simp)) rfl ⟨rfl, by (with_reducible repeat first | exact Below.refl _ _ | assumption | ((first | refine Below.setCell ?_ ?_ _ | refine Below.alloc ?_ ?_ _); rotate_left; exact (by first | omega | (simp; done) | (simp; omega))) | refine Below.drew ?_ | refine Below_drewN ?_ _)⟩
def maxT (l : List (Int × Int)) (s : Int × Int) : Int × Int := l.foldl (fun s x => (max s.1 x.1, max s.2 x.2)) s
theorem maxT_snoc (l : List (Int × Int)) (s p : Int × Int) : maxT (l ++ [p]) s = (max (maxT l s).1 p.1, max (maxT l s).2 p.2) := by simp [maxT]
set_option maxHeartbeats 2000000 in
theorem foldM_any (ab ao len cap : Nat) (a b : Int) (zs : List (Int × Int)) (w : World) (hlen : zs.length = len) (hl : len ≤ 1000000000000000) (hab : ab < w.heap.size) (hz : SpCells w ab ao len zs) :
    Calls Tryz.prog 155 #[.slice (some ⟨ab, ao, none⟩) len cap, Sp a b, .func (.func 156) #[] #[]] w (Ret (Sp (maxT zs (a, b)).1 (maxT zs (a, b)).2) w) := by
  have HZ := Lib.hid hz
  have HL := Lib.hid hlen
  clear hz hlen
  go_enter Tryz.func155, Tryz.ntmps155
  go_wp2_with fail
  go_loopw [7, 8, 11] (fun _ _ i wr => ∃ j : Nat, j ≤ len ∧ i = .int .i64 j ∧ wr.cell? ⟨w.heap.size, 0, none⟩ = some (.int .i64 (maxT (zs.take j) (a, b)).1) ∧ wr.cell? ⟨w.heap.size, 1, none⟩ = some (.int .i64 (maxT (zs.take j) (a, b)).2) ∧ wr.frozen? ⟨w.heap.size, 0, none⟩ = false ∧ wr.frozen? ⟨w.heap.size, 1, none⟩ = false ∧ w.heap.size + 1 < wr.heap.size ∧ Below w.heap.size w wr ∧ (wr).cell? ⟨w.heap.size + 1, 0, none⟩ = some (cur (wr) ⟨w.heap.size + 1, 0, none⟩) ∧ (wr).frozen? ⟨w.heap.size + 1, 0, none⟩ = false ∧ (wr).cell? ⟨w.heap.size + 1, 1, none⟩ = some (cur (wr) ⟨w.heap.size + 1, 1, none⟩) ∧ (wr).frozen? ⟨w.heap.size + 1, 1, none⟩ = false) (fun _ _ i _ => len - (intOf i).toNat)
  case atStart => exact ⟨0, Nat.zero_le _, rfl, (by go_simp; rfl), (by go_simp; rfl), (by go_simp), (by go_simp), (by simp), (by (with_reducible repeat first | exact Below.refl _ _ | assumption | ((first | refine Below.setCell ?_ ?_ _ | refine Below.alloc ?_ ?_ _); rotate_left; exact (by first | omega | (simp; done) | (simp; omega))) | refine Below.drew ?_ | refine Below_drewN ?_ _)), (by simp only [cur_iff]; go_simp), (by go_simp), (by simp only [cur_iff]; go_simp), (by go_simp)⟩
  case round =>
    obtain ⟨j, hj, rfl, m0, m1, f0, f1, hs1, hB, c0, q0, c1, q1⟩ := hrel
    by_cases hlt : j < len
    · obtain ⟨x0, x1⟩ := HZ.out.below hab hB j hlt
      have hsn : maxT (zs.take (j + 1)) (a, b) = (max (maxT (zs.take j) (a, b)).1 (zs.getD j (0, 0)).1, max (maxT (zs.take j) (a, b)).2 (zs.getD j (0, 0)).2) := by
        have hjl : j < zs.length := by rw [HL.out]; exact hlt
        rw [List.take_succ_eq_append_getElem hjl, maxT_snoc, List.getD_eq_getElem?_getD, List.getElem?_eq_getElem hjl]
        rfl
      have HSN := Lib.hid hsn
      clear hsn
      generalize maxT (zs.take j) (a, b) = v at *
      obtain ⟨v1, v2⟩ := v
      dsimp only at m0 m1 HSN
      generalize (zs.getD j (0, 0)).1 = x at *
      generalize (zs.getD j (0, 0)).2 = y at *
      have hne : ab ≠ w.heap.size := by omega
      have hz1 : ab < wr.heap.size := by omega
      have hz2 : w.heap.size < wr.heap.size := by omega
      go_wp2_with ((with_reducible show Calls _ 156 _ _ _); refine (max1_any _ _ _ _ _ _).mono ?_; rintro e w1 ⟨rfl, hb⟩; have hB : Below w.heap.size w w1 := Below.trans (by (with_reducible repeat first | exact Below.refl _ _ | assumption | ((first | refine Below.setCell ?_ ?_ _ | refine Below.alloc ?_ ?_ _); rotate_left; exact (by first | omega | (simp; done) | (simp; omega))) | refine Below.drew ?_ | refine Below_drewN ?_ _)) (hb.mono (by first | omega | (simp; done) | (simp; omega))); obtain ⟨hc, hf⟩ := bcell hb; have hs := hb.size; clear hb; (try simp only [World.size_alloc, World.size_setCell] at hc hf); (try simp only [World.size_alloc, World.size_setCell] at hs); (try have hs' := Nat.lt_of_succ_le hs); (try have hs0 : w.heap.size < w1.heap.size := by omega); (try have hs1 : w.heap.size + 1 < w1.heap.size := by omega); (try have hs2 : w.heap.size + 1 + 1 < w1.heap.size := by omega); (try have hs3 : w.heap.size + 1 + 1 + 1 < w1.heap.size := by omega); (try have iso : (w1.cell? ⟨w.heap.size, 0, none⟩).isSome = true := by (rw [hc _ _ (by first | omega | (simp; done) | (simp; omega))]; (try simp only [isSome_setCell]); first | assumption | go_simp)); (try have iso : (w1.cell? ⟨w.heap.size, 1, none⟩).isSome = true := by (rw [hc _ _ (by first | omega | (simp; done) | (simp; omega))]; (try simp only [isSome_setCell]); first | assumption | go_simp)); (try have iso : (w1.cell? ⟨w.heap.size + 1, 0, none⟩).isSome = true := by (rw [hc _ _ (by first | omega | (simp; done) | (simp; omega))]; (try simp only [isSome_setCell]); first | assumption | go_simp)); (try have iso : (w1.cell? ⟨w.heap.size + 1, 1, none⟩).isSome = true := by (rw [hc _ _ (by first | omega | (simp; done) | (simp; omega))]; (try simp only [isSome_setCell]); first | assumption | go_simp)); (try have iso : (w1.cell? ⟨w.heap.size + 1 + 1, 0, none⟩).isSome = true := by (rw [hc _ _ (by first | omega | (simp; done) | (simp; omega))]; (try simp only [isSome_setCell]); first | assumption | go_simp)); (try have iso : (w1.cell? ⟨w.heap.size + 1 + 1, 1, none⟩).isSome = true := by (rw [hc _ _ (by first | omega | (simp; done) | (simp; omega))]; (try simp only [isSome_setCell]); first | assumption | go_simp)))
      go_roundw
      case rel => exact ⟨j + 1, by omega, by go_num, by rw [HSN.out]; go_simp, by rw [HSN.out]; go_simp, by go_simp, by go_simp, (by first | omega | ((try simp only [World.size_alloc, World.size_setCell, size_drew, size_drewN]); omega) | (simp; done) | (simp; omega)), (by (with_reducible repeat first | exact Below.refl _ _ | assumption | ((first | refine Below.setCell ?_ ?_ _ | refine Below.alloc ?_ ?_ _); rotate_left; exact (by first | omega | (simp; done) | (simp; omega))) | refine Below.drew ?_ | refine Below_drewN ?_ _)), (by simp only [cur_iff, isSome_setCell]; go_simp), (by go_simp), (by simp only [cur_iff, isSome_setCell]; go_simp), (by go_simp)⟩
      case measure => simp [intOf]; omega
    · have hjl : j = len := by omega
      have e : zs.take j = zs := by rw [hjl, ← HL.out]; exact List.take_length
      rw [e] at m0 m1
      clear e hjl
      generalize maxT zs (a, b) = v at *
      obtain ⟨v1, v2⟩ := v
      dsimp only at m0 m1
      go_wp2
      exact bodyPost_ret (res2ps Tryz.results155 _ _ _ _ _ rfl (by (try simp only [isSome_setCell]); first | assumption | go_simp) (by (try simp only [isSome_setCell]); first | assumption | go_simp)) rfl ⟨rfl, by (with_reducible repeat first | exact Below.refl _ _ | assumption | ((first | refine Below.setCell ?_ ?_ _ | refine Below.alloc ?_ ?_ _); rotate_left; exact (by first | omega | (simp; done) | (simp; omega))) | refine Below.drew ?_ | refine Below_drewN ?_ _)⟩
end
section
open Go.RowKit Go.Shelf
set_option maxHeartbeats 1000000 in
theorem allValid_any (ab ao len cap : Nat) (zs : List (Int × Int)) (w : World) (hlen : zs.length = len) (hl : len ≤ 1000000000000000) (hab : ab < w.heap.size) (hz : SpCells w ab ao len zs) :
    Calls Tryz.prog 154 #[.slice (some ⟨ab, ao, none⟩) len cap] w (Ret (.bool (allV zs)) w) := by
  have HF := Lib.hid (foldV_any ab ao len cap zs w hlen hl hab hz)
  clear hz hlen
  generalize allV zs = v at *
  go_enter Tryz.func154, Tryz.ntmps154
  go_wp2_with ((with_reducible show Calls _ 173 _ _ _); refine HF.out.mono ?_; rintro e w1 ⟨rfl, hb⟩)
  go_ret
  exact ⟨rfl, hb⟩
set_option maxHeartbeats 2000000 in
theorem max_some (ab ao len cap : Nat) (zs : List (Int × Int)) (w : World) (hpos : 0 < len) (hlen : zs.length = len) (hl : len ≤ 1000000000000000) (hab : ab < w.heap.size) (hz : SpCells w ab ao len zs) (hv : allV zs = true) :
    Calls Tryz.prog 100 #[.slice (some ⟨ab, ao, none⟩) len cap] w (Ret (.tuple #[.agg #[.int .i64 (maxT zs (zs.getD 0 (0, 0))).1, .int .i64 (maxT zs (zs.getD 0 (0, 0))).2], .int .i64 0]) w) := by
  have HV := Lib.hid (fun W (hb : Below w.heap.size w W) => (allValid_any ab ao len cap zs W hlen hl (Nat.lt_of_lt_of_le hab hb.size) (hz.below hab hb)))
  have HM := Lib.hid (fun W (hb : Below w.heap.size w W) => (foldM_any ab ao len cap (zs.getD 0 (0, 0)).1 (zs.getD 0 (0, 0)).2 zs W hlen hl (Nat.lt_of_lt_of_le hab hb.size) (hz.below hab hb)))
  have hc := hz 0 hpos
  obtain ⟨c0, c1⟩ := hc
  rw [Nat.zero_mul, Nat.add_zero] at c0 c1
  rw [hv] at HV
  have b0 : ((len : Int) == 0) = false := by rw [beq_eq_false_iff_ne]; omega
  have b1 : (0 : Int) < len := by omega
  generalize (zs.getD 0 (0, 0)) = q at *
  obtain ⟨q0, q1⟩ := q
  dsimp only at HM c0 c1
  generalize maxT zs (q0, q1) = r at *
  clear hz hlen hv
  go_enter Tryz.func100, Tryz.ntmps100
  go_wp2_with (first | (go_at_call 154; refine (HV.out _ (by (with_reducible repeat first | exact Below.refl _ _ | assumption | ((first | refine Below.setCell ?_ ?_ _ | refine Below.alloc ?_ ?_ _); rotate_left; exact (by first | omega | (simp; done) | (simp; omega))) | refine Below.drew ?_ | refine Below_drewN ?_ _))).mono ?_; rintro e w1 ⟨rfl, hb⟩; have hB : Below w.heap.size w w1 := Below.trans (by (with_reducible repeat first | exact Below.refl _ _ | assumption | ((first | refine Below.setCell ?_ ?_ _ | refine Below.alloc ?_ ?_ _); rotate_left; exact (by first | omega | (simp; done) | (simp; omega))) | refine Below.drew ?_ | refine Below_drewN ?_ _)) (hb.mono (by first | omega | (simp; done) | (simp; omega))); obtain ⟨hc, hf⟩ := bcell hb; have hs := hb.size; clear hb; (try simp only [World.size_alloc, World.size_setCell] at hc hf); (try simp only [World.size_alloc, World.size_setCell] at hs); (try have hs' := Nat.lt_of_succ_le hs); (try have hs0 : w.heap.size < w1.heap.size := by omega); (try have hs1 : w.heap.size + 1 < w1.heap.size := by omega); (try have hs2 : w.heap.size + 1 + 1 < w1.heap.size := by omega); (try have hs3 : w.heap.size + 1 + 1 + 1 < w1.heap.size := by omega); (try have iso : (w1.cell? ⟨w.heap.size, 0, none⟩).isSome = true := by (rw [hc _ _ (by first | omega | (simp; done) | (simp; omega))]; (try simp only [isSome_setCell]); first | assumption | go_simp)); (try have iso : (w1.cell? ⟨w.heap.size, 1, none⟩).isSome = true := by (rw [hc _ _ (by first | omega | (simp; done) | (simp; omega))]; (try simp only [isSome_setCell]); first | assumption | go_simp)); (try have iso : (w1.cell? ⟨w.heap.size + 1, 0, none⟩).isSome = true := by (rw [hc _ _ (by first | omega | (simp; done) | (simp; omega))]; (try simp only [isSome_setCell]); first | assumption | go_simp)); (try have iso : (w1.cell? ⟨w.heap.size + 1, 1, none⟩).isSome = true := by (rw [hc _ _ (by first | omega | (simp; done) | (simp; omega))]; (try simp only [isSome_setCell]); first | assumption | go_simp)); (try have iso : (w1.cell? ⟨w.heap.size + 1 + 1, 0, none⟩).isSome = true := by (rw [hc _ _ (by first | omega | (simp; done) | (simp; omega))]; (try simp only [isSome_setCell]); first | assumption | go_simp)); (try have iso : (w1.cell? ⟨w.heap.size + 1 + 1, 1, none⟩).isSome = true := by (rw [hc _ _ (by first | omega | (simp; done) | (simp; omega))]; (try simp only [isSome_setCell]); first | assumption | go_simp)); have hab1 : ab < w1.heap.size := (by omega)) | (go_at_call 155; refine (HM.out _ (by (with_reducible repeat first | exact Below.refl _ _ | assumption | ((first | refine Below.setCell ?_ ?_ _ | refine Below.alloc ?_ ?_ _); rotate_left; exact (by first | omega | (simp; done) | (simp; omega))) | refine Below.drew ?_ | refine Below_drewN ?_ _))).mono ?_; rintro e w1 ⟨rfl, hb⟩; have hB : Below w.heap.size w w1 := Below.trans (by (with_reducible repeat first | exact Below.refl _ _ | assumption | ((first | refine Below.setCell ?_ ?_ _ | refine Below.alloc ?_ ?_ _); rotate_left; exact (by first | omega | (simp; done) | (simp; omega))) | refine Below.drew ?_ | refine Below_drewN ?_ _)) (hb.mono (by first | omega | (simp; done) | (simp; omega))); obtain ⟨hc, hf⟩ := bcell hb; have hs := hb.size; clear hb; (try simp only [World.size_alloc, World.size_setCell] at hc hf); (try simp only [World.size_alloc, World.size_setCell] at hs); (try have hs' := Nat.lt_of_succ_le hs); (try have hs0 : w.heap.size < w1.heap.size := by omega); (try have hs1 : w.heap.size + 1 < w1.heap.size := by omega); (try have hs2 : w.heap.size + 1 + 1 < w1.heap.size := by omega); (try have hs3 : w.heap.size + 1 + 1 + 1 < w1.heap.size := by omega); (try have iso : (w1.cell? ⟨w.heap.size, 0, none⟩).isSome = true := by (rw [hc _ _ (by first | omega | (simp; done) | (simp; omega))]; (try simp only [isSome_setCell]); first | assumption | go_simp)); (try have iso : (w1.cell? ⟨w.heap.size, 1, none⟩).isSome = true := by (rw [hc _ _ (by first | omega | (simp; done) | (simp; omega))]; (try simp only [isSome_setCell]); first | assumption | go_simp)); (try have iso : (w1.cell? ⟨w.heap.size + 1, 0, none⟩).isSome = true := by (rw [hc _ _ (by first | omega | (simp; done) | (simp; omega))]; (try simp only [isSome_setCell]); first | assumption | go_simp)); (try have iso : (w1.cell? ⟨w.heap.size + 1, 1, none⟩).isSome = true := by (rw [hc _ _ (by first | omega | (simp; done) | (simp; omega))]; (try simp only [isSome_setCell]); first | assumption | go_simp)); (try have iso : (w1.cell? ⟨w.heap.size + 1 + 1, 0, none⟩).isSome = true := by (rw [hc _ _ (by first | omega | (simp; done) | (simp; omega))]; (try simp only [isSome_setCell]); first | assumption | go_simp)); (try have iso : (w1.cell? ⟨w.heap.size + 1 + 1, 1, none⟩).isSome = true := by (rw [hc _ _ (by first | omega | (simp; done) | (simp; omega))]; (try simp only [isSome_setCell]); first | assumption | go_simp))))
  exact bodyPost_ret (res3 Tryz.results100 _ _ _ _ _ _ rfl rfl (by (try simp only [isSome_setCell]); first | assumption | go_simp) (by (try simp only [isSome_setCell]); first | assumption | go_simp)) rfl ⟨rfl, by (with_reducible repeat first | exact Below.refl _ _ | assumption | ((first | refine Below.setCell ?_ ?_ _ | refine Below.alloc ?_ ?_ _); rotate_left; exact (by first | omega | (simp; done) | (simp; omega))) | refine Below.drew ?_ | refine Below_drewN ?_ _)⟩
end
end Go.Proofs.YtogcjgjhmlifgaaGreat
