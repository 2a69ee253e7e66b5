import Derived.Test.YthggkidiidnaoaaGreatWAA
import Derived.Test.YthggkidiidnaoaaGreatWAJ
import Derived.Test.YthggkidiidnaoaaGreatWAL
import Derived.Handy
import Derived.Deep.RegionHeld3
import Derived.Deep.DeepCutAuto
import Derived.Deep.QuietTactic
import Derived.BigQuiet
import Derived.IntWalk
import Derived.RangeFuncNested
import Derived.RangeFuncBound
import Derived.RangeFuncCalls
import Derived.RangeFuncLeaves
import Derived.Shelf.Abstract
import Derived.Shelf.RegionOpen
import Derived.WalkKit
import Derived.OwnWalkIn
import Derived.TacticsInMore
import Derived.LoopNIn
import Derived.LoopIn
import Derived.OrdersIn
import Derived.Laws.World
namespace Go.Proofs.YthggkidiidnaoaaGreat
set_option linter.unusedVariables false
set_option linter.unusedSimpArgs false
section
open Go.RowKit
def infl (a b c d : Int) : Int := if nearB a b 1000 = true ∧ nearB c d 1000 = true then 1000000 / (4 + (a - c) * (a - c) + (b - d) * (b - d)) else 0
theorem sq_bd {x : Int} (h0 : -2000 ≤ x) (h1 : x ≤ 2000) : 0 ≤ x * x ∧ x * x ≤ 4000000 := by
 rcases Int.le_total 0 x with h | h
 ·exact ⟨Int.mul_nonneg h h, Int.mul_le_mul h1 h1 h om9⟩
 ·rw [← Int.neg_mul_neg]
  exact ⟨Int.mul_nonneg om9 om9, Int.mul_le_mul (a := -x) (b := -x) (c := 2000) (d := 2000) om9 om9 om9 om9⟩
theorem nearB_bd {r z f : Int} (h : nearB r z f = true) : (-f ≤ r ∧ r ≤ f) ∧ -f ≤ z ∧ z ≤ f := by simpa [nearB, wthn] using h
theorem infl_bd (a b c d : Int) : 0 ≤ infl a b c d ∧ infl a b c d ≤ 250000 := by
 unfold infl
 split
 ·rename_i h
  have h1 := nearB_bd h.1
  have h2 := nearB_bd h.2
  have s1 := sq_bd (x := a - c) om9 om9
  have s2 := sq_bd (x := b - d) om9 om9
  generalize (a - c) * (a - c) = p at *
  generalize (b - d) * (b - d) = q at *
  refine ⟨Int.ediv_nonneg om9 om9, ?_⟩
  have : 1000000 / (4 + p + q) ≤ 1000000 / 4 := by
   rw [Int.le_ediv_iff_mul_le om9]
   have h4 : 1000000 / (4 + p + q) * (4 + p + q) ≤ 1000000 := Int.ediv_mul_le _ om9
   have h5 : 0 ≤ 1000000 / (4 + p + q) := Int.ediv_nonneg om9 om9
   have h6 : 1000000 / (4 + p + q) * 4 ≤ 1000000 / (4 + p + q) * (4 + p + q) := Int.mul_le_mul_of_nonneg_left om9 h5
   omega
  omega
 ·omega
set_option maxRecDepth 100000 in
set_option maxHeartbeats 2000000 in
theorem influence_any (a b c d : Int) (w : World) :
  Calls Tryz.prog 96 #[.agg #[.int .i64 a, .int .i64 b], .agg #[.int .i64 c, .int .i64 d]] w (Ret (.int .i64 (infl a b c d)) w) := by
 cases n1 : nearB a b 1000
 ·have HE : Hid (infl a b c d = 0) := Lib.hid (by unfold infl; rw [if_neg (by simp [n1])])
  go_enter Tryz.func96, Tryz.ntmps96
  go_wp2_with (go_at_call 138; refine (near_any _ _ _ _ om9 om9).mono ?_; rintro e w1 ⟨rfl, rfl⟩)
  go_ret
  exact ⟨by rw [HE.out]; rfl, by (repeat first | with_reducible exact Below.refl _ _ | (with_reducible refine Below.alloc ?_ ?_ _; rotate_left; exact (by first | omega | (simp; done))))⟩
 cases n2 : nearB c d 1000
 ·have HE : Hid (infl a b c d = 0) := Lib.hid (by unfold infl; rw [if_neg (by simp [n2])])
  go_enter Tryz.func96, Tryz.ntmps96
  go_wp2_with (go_at_call 138; refine (near_any _ _ _ _ om9 om9).mono ?_; rintro e w1 ⟨rfl, rfl⟩)
  go_ret
  exact ⟨by rw [HE.out]; rfl, by (repeat first | with_reducible exact Below.refl _ _ | (with_reducible refine Below.alloc ?_ ?_ _; rotate_left; exact (by first | omega | (simp; done))))⟩
 have HE : Hid (infl a b c d = 1000000 / (4 + (a - c) * (a - c) + (b - d) * (b - d))) := Lib.hid (by unfold infl; rw [if_pos ⟨n1, n2⟩])
 obtain ⟨⟨a0, a1⟩, b0, b1⟩ := nearB_bd n1
 obtain ⟨⟨c0, c1⟩, d0, d1⟩ := nearB_bd n2
 have s1 := sq_bd (x := a - c) om9 om9
 have s2 := sq_bd (x := b - d) om9 om9
 have e1 : IntKind.i64.wrap (a - c) = a - c := IntWalk.i64_in _ om9
 have e2 : IntKind.i64.wrap (b - d) = b - d := IntWalk.i64_in _ om9
 go_enter Tryz.func96, Tryz.ntmps96
 go_wp2_with (go_at_call 138; refine (near_any _ _ _ _ om9 om9).mono ?_; rintro e w1 ⟨rfl, rfl⟩)
 go_quiet (fail)
 obtain ⟨g0, g1⟩ := infl_bd a b c d
 generalize infl a b c d = G at *
 generalize hx : a - c = x at *
 generalize hy : b - d = y at *
 clear n1 n2
 generalize hp : x * x = p at *
 generalize hq : y * y = q at *
 have k0 : ¬(4 + p + q = 0) := by omega
 have k1 : ((4 + p + q) == 0) = false := by rw [beq_eq_false_iff_ne]; omega
 have k2 : (1000000 : Int).tdiv (4 + p + q) = G := by rw [HE.out]; exact Int.tdiv_eq_ediv_of_nonneg om9
 have k3 : (1000000 : Int) / (4 + p + q) = G := HE.out.symm
 clear HE
 go_wp2_with fail
 go_ret
 exact ⟨rfl, by (repeat first | with_reducible exact Below.refl _ _ | (with_reducible refine Below.alloc ?_ ?_ _; rotate_left; exact (by first | omega | (simp; done))) | with_reducible refine Below_drewN ?_ _)⟩
end
section
open Go.RowKit
theorem four_get {a b c d x : Int} {j : Nat} (h : ([a, b, c, d] : List Int)[j]? = some x) : (j = 0 ∧ x = a) ∨ (j = 1 ∧ x = b) ∨ (j = 2 ∧ x = c) ∨ (j = 3 ∧ x = d) := by
 match j, h with
 | 0, h => exact .inl ⟨rfl, by simpa using h.symm⟩
 | 1, h => exact .inr (.inl ⟨rfl, by simpa using h.symm⟩)
 | 2, h => exact .inr (.inr (.inl ⟨rfl, by simpa using h.symm⟩))
 | 3, h => exact .inr (.inr (.inr ⟨rfl, by simpa using h.symm⟩))
theorem infl_no {a b c d x : Int} {j : Nat} (h : ([a, b, c, d] : List Int)[j]? = some x) (hx : wthn x (-1000) 1000 = false) : infl a b c d = 0 := by
 unfold infl
 rw [if_neg]
 rintro ⟨h1, h2⟩
 simp only [nearB, Bool.and_eq_true] at h1 h2
 rcases four_get h with ⟨-, rfl⟩ | ⟨-, rfl⟩ | ⟨-, rfl⟩ | ⟨-, rfl⟩ <;> simp_all
theorem infl_yes {a b c d : Int} (h : ∀ (j : Nat) (x : Int), ([a, b, c, d] : List Int)[j]? = some x → wthn x (-1000) 1000 = true) : infl a b c d = 1000000 / (4 + (a - c) * (a - c) + (b - d) * (b - d)) ∧ ((-1000 ≤ a ∧ a ≤ 1000) ∧ -1000 ≤ b ∧ b ≤ 1000) ∧ (-1000 ≤ c ∧ c ≤ 1000) ∧ -1000 ≤ d ∧ d ≤ 1000 := by
 have h0 := h 0 a rfl
 have h1 := h 1 b rfl
 have h2 := h 2 c rfl
 have h3 := h 3 d rfl
 have g : ∀ x : Int, wthn x (-1000) 1000 = true → -1000 ≤ x ∧ x ≤ 1000 := fun x hx => by simpa [wthn] using hx
 refine ⟨?_, ⟨g _ h0, g _ h1⟩, g _ h2, g _ h3⟩
 unfold infl
 rw [if_pos (by simp [nearB, h0, h1, h2, h3])]
set_option maxRecDepth 100000 in
set_option maxHeartbeats 4000000 in
theorem rinfluence_any (a b c d : Int) (w : World) :
  Calls Tryz.prog 159 #[.agg #[.int .i64 a, .int .i64 b], .agg #[.int .i64 c, .int .i64 d]] w (Ret (.int .i64 (infl a b c d)) w) := by
 have HN := Lib.hid (fun (j : Nat) (x : Int) h hx => infl_no (a := a) (b := b) (c := c) (d := d) (j := j) (x := x) h hx)
 have HY := Lib.hid (fun h => infl_yes (a := a) (b := b) (c := c) (d := d) h)
 have HB := infl_bd a b c d
 generalize infl a b c d = G at *
 go_enter Tryz.func159, Tryz.ntmps159
 go_upto_region 3 with (fail)
 have HC : Hid (∀ (j : Nat) (x : Int), ([a, b, c, d] : List Int)[j]? = some x → (((w.alloc (.cells #[.int .i64 a, .int .i64 b] 53)).alloc (.cells #[.int .i64 c, .int .i64 d] 53)).alloc (.cells #[.int .i64 a, .int .i64 b, .int .i64 c, .int .i64 d] 3)).cell? ⟨w.heap.size + 1 + 1, j, none⟩ = some (.int .i64 x)) := Lib.hid (fun j x h => by
  rcases four_get h with ⟨rfl, rfl⟩ | ⟨rfl, rfl⟩ | ⟨rfl, rfl⟩ | ⟨rfl, rfl⟩ <;> go_simp)
 have p0 : (((w.alloc (.cells #[.int .i64 a, .int .i64 b] 53)).alloc (.cells #[.int .i64 c, .int .i64 d] 53)).alloc (.cells #[.int .i64 a, .int .i64 b, .int .i64 c, .int .i64 d] 3)).cell? ⟨w.heap.size, 0, none⟩ = some (.int .i64 a) := by go_simp
 have p1 : (((w.alloc (.cells #[.int .i64 a, .int .i64 b] 53)).alloc (.cells #[.int .i64 c, .int .i64 d] 53)).alloc (.cells #[.int .i64 a, .int .i64 b, .int .i64 c, .int .i64 d] 3)).cell? ⟨w.heap.size, 1, none⟩ = some (.int .i64 b) := by go_simp
 have p2 : (((w.alloc (.cells #[.int .i64 a, .int .i64 b] 53)).alloc (.cells #[.int .i64 c, .int .i64 d] 53)).alloc (.cells #[.int .i64 a, .int .i64 b, .int .i64 c, .int .i64 d] 3)).cell? ⟨w.heap.size + 1, 0, none⟩ = some (.int .i64 c) := by go_simp
 have p3 : (((w.alloc (.cells #[.int .i64 a, .int .i64 b] 53)).alloc (.cells #[.int .i64 c, .int .i64 d] 53)).alloc (.cells #[.int .i64 a, .int .i64 b, .int .i64 c, .int .i64 d] 3)).cell? ⟨w.heap.size + 1, 1, none⟩ = some (.int .i64 d) := by go_simp
 have hB : Below w.heap.size w (((w.alloc (.cells #[.int .i64 a, .int .i64 b] 53)).alloc (.cells #[.int .i64 c, .int .i64 d] 53)).alloc (.cells #[.int .i64 a, .int .i64 b, .int .i64 c, .int .i64 d] 3)) := by (repeat first | with_reducible exact Below.refl _ _ | (with_reducible refine Below.alloc ?_ ?_ _; rotate_left; exact (by first | omega | (simp; done) | (simp; omega))))
 obtain ⟨W, hW⟩ : ∃ W, ((w.alloc (.cells #[.int .i64 a, .int .i64 b] 53)).alloc (.cells #[.int .i64 c, .int .i64 d] 53)).alloc (.cells #[.int .i64 a, .int .i64 b, .int .i64 c, .int .i64 d] 3) = W := ⟨_, rfl⟩
 rw [hW] at HC p0 p1 p2 p3 hB ⊢
 clear hW
 go_loopw [6] (fun i wr => ∃ j : Nat, j ≤ 4 ∧ i = .int .i64 j ∧ wr = W ∧ Hid (∀ (k : Nat) (x : Int), k < j → ([a, b, c, d] : List Int)[k]? = some x → wthn x (-1000) 1000 = true)) (fun i _ => 4 - (intOf i).toNat)
 case atStart => exact ⟨0, by omega, rfl, rfl, Lib.hid (fun k x hk => absurd hk (Nat.not_lt_zero k))⟩
 case round =>
  obtain ⟨j, hj, rfl, rfl, HA⟩ := hrel
  by_cases hlt : j < 4
  ·obtain ⟨x, hx⟩ : ∃ x, ([a, b, c, d] : List Int)[j]? = some x := ⟨_, List.getElem?_eq_getElem (by simpa using hlt)⟩
   have x0 := HC.out j x hx
   have HX := Lib.hid hx
   clear hx
   have jc : (0 : Int) ≤ j := by omega
   have j4 : (j : Int) < 4 := by omega
   have jn : ((j : Int)).toNat = j := by omega
   have HW := Lib.hid (fun V => rwithin2_any x (-1000) 1000 V)
   cases hw : wthn x (-1000) 1000
   ·rw [hw] at HW
    obtain rfl : G = 0 := HN.out j x HX.out hw
    clear HN HY HA hw
    go_wp2_with (go_at_call 44; refine (HW.out _).mono ?_; rintro e w' ⟨rfl, rfl⟩)
    go_ret
    exact ⟨rfl, by (repeat with_reducible assumption)⟩
   ·rw [hw] at HW
    have HA' : Hid (∀ (k : Nat) (x : Int), k < j + 1 → ([a, b, c, d] : List Int)[k]? = some x → wthn x (-1000) 1000 = true) := Lib.hid (fun k y hk hy => by
     by_cases h : k < j
     ·exact HA.out k y h hy
     ·obtain rfl : k = j := by omega
      obtain rfl : x = y := Option.some.inj (HX.out.symm.trans hy)
      exact hw)
    clear HA hw HX
    go_wp2_with (go_at_call 44; refine (HW.out _).mono ?_; rintro e w' ⟨rfl, rfl⟩)
    go_roundw
    case rel => exact ⟨j + 1, by omega, by go_num, by first | rfl | trivial, HA'⟩
    case measure => simp [intOf]; omega
  ·have HA2 := HY.out (fun k x hx => HA.out k x (by have := (List.getElem?_eq_some_iff.1 hx).1; simp at this; omega) hx)
   have j4 : ¬ (j : Int) < 4 := by omega
   have j5 : decide ((j : Int) < 4) = false := decide_eq_false j4
   obtain ⟨hG, ⟨⟨a0, a1⟩, b0, b1⟩, ⟨c0, c1⟩, d0, d1⟩ := HA2
   have HE := Lib.hid hG
   clear HA HN HY HC hG
   have s1 := sq_bd (x := a - c) om9 om9
   have s2 := sq_bd (x := b - d) om9 om9
   have e1 : IntKind.i64.wrap (a - c) = a - c := IntWalk.i64_in _ om9
   have e2 : IntKind.i64.wrap (b - d) = b - d := IntWalk.i64_in _ om9
   obtain ⟨g0, g1⟩ := HB
   obtain ⟨x, hx⟩ : ∃ x, a - c = x := ⟨_, rfl⟩
   obtain ⟨y, hy⟩ : ∃ y, b - d = y := ⟨_, rfl⟩
   rw [hx] at s1 e1 HE
   rw [hy] at s2 e2 HE
   obtain ⟨p, hp⟩ : ∃ p, x * x = p := ⟨_, rfl⟩
   obtain ⟨q, hq⟩ : ∃ q, y * y = q := ⟨_, rfl⟩
   rw [hp] at s1 HE
   rw [hq] at s2 HE
   have k0 : ¬(4 + p + q = 0) := by omega
   have k1 : ((4 + p + q) == 0) = false := by rw [beq_eq_false_iff_ne]; omega
   have k2 : (1000000 : Int).tdiv (4 + p + q) = G := by rw [HE.out]; exact Int.tdiv_eq_ediv_of_nonneg om9
   have k3 : (1000000 : Int) / (4 + p + q) = G := HE.out.symm
   clear HE hlt
   go_wp2_with fail
   go_ret
   exact ⟨rfl, by (repeat with_reducible assumption)⟩
end
section
open Go.RowKit
set_option maxHeartbeats 2000000 in
theorem indexint2 (k : Nat) (c0 : Nat) (c1 : Nat) (p : Int → Bool) (A : Option Addr) (len cap : Nat) (zs : List Int) (w : World) (hI : IsT 1 intCells w A len zs) (hl : len ≤ 1000000000000000)
  (hE : ∀ (args : Array Value) (W : World), (callFunc k args).run Tryz.prog W = .ok (.enter k args) W)
  (hk : ∀ (x : Int) (W : World), x ∈ zs → Below w.heap.size w W → Calls Tryz.prog k #[intV x, .pointer (some ⟨c0, 0, none⟩), .pointer (some ⟨c1, 0, none⟩)] W (Ret (.bool (p x)) W)) :
  Calls Tryz.prog 114 #[.slice A len cap, .func (.func k) #[] #[.pointer (some ⟨c0, 0, none⟩), .pointer (some ⟨c1, 0, none⟩)]] w (Ret (.int .i64 (idxL p zs)) w) := by
 have HI := Lib.hid hI
 have HK := Lib.hid hk
 have HG : Hid (idxL p zs = idxGo p zs 0) := Lib.hid rfl
 generalize idxL p zs = G at *
 clear hI hk
 go_enter Tryz.func114, Tryz.ntmps114
 go_wp2_with fail
 go_loopw [5, 8] (fun _ i wr => ∃ j : Nat, j ≤ len ∧ i = .int .i64 j ∧ Hid (idxGo p (zs.drop j) j = G) ∧ Below w.heap.size w wr) (fun _ i _ => len - (intOf i).toNat)
 case atStart => exact ⟨0, Nat.zero_le _, rfl, Lib.hid HG.out.symm, Below.refl _ _⟩
 case round =>
  obtain ⟨j, hj, rfl, hG, hB⟩ := hrel
  by_cases hlt : j < len
  ·obtain ⟨hzl, hcl⟩ := HI.out.below hB
   obtain ⟨b, o, rfl, hb0, hcl⟩ := hcl om9
   obtain ⟨x, hx⟩ : ∃ x, zs[j]? = some x := ⟨_, List.getElem?_eq_getElem om9⟩
   have HM := Lib.hid (List.mem_of_getElem? hx)
   have HS := Lib.hid (idxGo_drop p hx (j : Int))
   have x0 : wr.cell? ⟨b, o + j, none⟩ = some (.int .i64 x) := by have h := hcl j x hx 0 _ rfl; simpa using h
   have hsz := hB.size
   have HC := Lib.hid (HK.out x)
   clear hcl hx hzl
   cases hp : p x
   ·have HN : Hid (idxGo p (zs.drop (j + 1)) ((j + 1 : Nat) : Int) = G) := Lib.hid (by rw [← hG.out, HS.out, hp]; rfl)
    have HC := Lib.hid (show ∀ W, Below w.heap.size w W → Calls Tryz.prog k #[intV x, .pointer (some ⟨c0, 0, none⟩), .pointer (some ⟨c1, 0, none⟩)] W (Ret (.bool false) W) from fun W h => by have := HC.out W HM.out h; rwa [hp] at this)
    clear hp
    go_wp2_with ((with_reducible show Calls _ k _ _ _); refine (HC.out _ ra9).mono ?_; rintro e w1 ⟨rfl, hb⟩; have hB1 : Below w.heap.size w w1 := Below.trans ra9 (hb.mono om9))
    go_roundw
    case rel => exact ⟨j + 1, by omega, by go_num, HN, by (repeat with_reducible assumption)⟩
    case measure => simp [intOf]; omega
   ·have HN : Hid ((j : Int) = G) := Lib.hid (by rw [← hG.out, HS.out, hp]; rfl)
    have HC := Lib.hid (show ∀ W, Below w.heap.size w W → Calls Tryz.prog k #[intV x, .pointer (some ⟨c0, 0, none⟩), .pointer (some ⟨c1, 0, none⟩)] W (Ret (.bool true) W) from fun W h => by have := HC.out W HM.out h; rwa [hp] at this)
    clear hp
    go_wp2_with ((with_reducible show Calls _ k _ _ _); refine (HC.out _ ra9).mono ?_; rintro e w1 ⟨rfl, hb⟩; have hB1 : Below w.heap.size w w1 := Below.trans ra9 (hb.mono om9))
    go_ret
    exact ⟨by rw [← HN.out]; rfl, by (repeat with_reducible assumption)⟩
  ·have HN : Hid ((-1 : Int) = G) := Lib.hid (by rw [← hG.out, List.drop_of_length_le (by rw [HI.out.1]; omega)]; rfl)
   go_wp2
   go_ret
   exact ⟨by rw [← HN.out]; rfl, hB⟩
set_option maxHeartbeats 1000000 in
theorem containsint2 (k : Nat) (c0 : Nat) (c1 : Nat) (p : Int → Bool) (A : Option Addr) (len cap : Nat) (zs : List Int) (w : World) (hI : IsT 1 intCells w A len zs) (hl : len ≤ 1000000000000000)
  (hE : ∀ (args : Array Value) (W : World), (callFunc k args).run Tryz.prog W = .ok (.enter k args) W)
  (hk : ∀ (x : Int) (W : World), x ∈ zs → Below w.heap.size w W → Calls Tryz.prog k #[intV x, .pointer (some ⟨c0, 0, none⟩), .pointer (some ⟨c1, 0, none⟩)] W (Ret (.bool (p x)) W)) :
  Calls Tryz.prog 66 #[.slice A len cap, .func (.func k) #[] #[.pointer (some ⟨c0, 0, none⟩), .pointer (some ⟨c1, 0, none⟩)]] w (Ret (.bool (zs.any p)) w) := by
 have HI := Lib.hid (indexint2 k c0 c1 p A len cap zs w hI hl hE hk)
 have HA := Lib.hid (idxL_nonneg p zs)
 obtain ⟨b1, b2⟩ := idxL_bd p zs
 rw [hI.1] at b2
 clear hI hE hk
 generalize idxL p zs = G at *
 go_enter Tryz.func66, Tryz.ntmps66
 go_wp2_with (go_at_call 114; refine HI.out.mono ?_; rintro e w1 ⟨rfl, hb⟩)
 go_ret
 exact ⟨by rw [← HA.out]; rfl, hb⟩
end
section
open Go.RowKit Go.Shelf
set_option maxHeartbeats 1000000 in
theorem allWithin1_any (x a b : Int) (c0 c1 : Nat) (w : World) (h0 : w.cell? ⟨c0, 0, none⟩ = some (.int .i64 a)) (h1 : w.cell? ⟨c1, 0, none⟩ = some (.int .i64 b)) :
  Calls Tryz.prog 100 #[intV x, .pointer (some ⟨c0, 0, none⟩), .pointer (some ⟨c1, 0, none⟩)] w (Ret (.bool (!wthn x a b)) w) := by
 go_enter Tryz.func100, Tryz.ntmps100
 go_wp2_with (go_at_call 27; refine (mwithin_any _ _ _ _).mono ?_; rintro e w1 ⟨rfl, rfl⟩)
 go_ret
 exact ⟨rfl, by (repeat with_reducible exact Below.refl _ _)⟩
def allW (l : List Int) (a b : Int) : Bool := l.all fun x => wthn x a b
theorem not_any_allW (l : List Int) (a b : Int) : (!(l.any fun x => !wthn x a b)) = allW l a b := by
 unfold allW
 induction l with
 | nil => rfl
 | cons x r ih => simp only [List.any_cons, List.all_cons, Bool.not_or, Bool.not_not, ih]
set_option maxHeartbeats 1000000 in
theorem allWithin_any (A : Option Addr) (len cap : Nat) (zs : List Int) (a b : Int) (w : World) (hI : IsT 1 intCells w A len zs) (hl : len ≤ 1000000000000000) :
  Calls Tryz.prog 53 #[.slice A len cap, .int .i64 a, .int .i64 b] w (Ret (.bool (allW zs a b)) w) := by
 have HE := Lib.hid (not_any_allW zs a b)
 have HC := Lib.hid (fun W (hb : Below w.heap.size w W) (h0 : w.heap.size + 1 < W.heap.size) (h1 : W.cell? ⟨w.heap.size, 0, none⟩ = some (.int .i64 a)) (h2 : W.cell? ⟨w.heap.size + 1, 0, none⟩ = some (.int .i64 b)) =>
  containsint2 100 w.heap.size (w.heap.size + 1) (fun x => !wthn x a b) A len cap zs W (hI.below hb) hl (fun args W => enters_of Tryz.func100 kr9 rfl args W)
   (fun x W' _ hB => allWithin1_any x a b _ _ W' ((hB.cell (p := ⟨w.heap.size, 0, none⟩) (by show w.heap.size < _; omega)).trans h1) ((hB.cell (p := ⟨w.heap.size + 1, 0, none⟩) (by show w.heap.size + 1 < _; omega)).trans h2)))
 clear hI
 generalize allW zs a b = G at *
 generalize (zs.any fun x => !wthn x a b) = K at *
 go_enter Tryz.func53, Tryz.ntmps53
 go_wp2_with (go_at_call 66; refine (HC.out _ (by (repeat first | with_reducible exact Below.refl _ _ | (with_reducible refine Below.alloc ?_ ?_ _; rotate_left; exact (by first | omega | (simp; done))))) (by ((try simp only [World.size_alloc, World.size_setCell, size_drew, size_drewN]); omega)) (by go_simp) (by go_simp)).mono ?_; rintro e w1 ⟨rfl, hb⟩)
 go_ret
 exact ⟨by rw [← HE.out]; rfl, Below.trans (by (repeat first | with_reducible exact Below.refl _ _ | (with_reducible refine Below.alloc ?_ ?_ _; rotate_left; exact (by first | omega | (simp; done))))) (hb.mono (by ((try simp only [World.size_alloc, World.size_setCell, size_drew, size_drewN]); omega)))⟩
def tot (s : Int) : List Int → Int
 | [] => s
 | x :: r => tot (wrap64 (s + x)) r
theorem tot_drop {l : List Int} {k : Nat} {x : Int} (h : l[k]? = some x) (s : Int) : tot s (l.drop k) = tot (wrap64 (s + x)) (l.drop (k + 1)) := by
 obtain ⟨hk, rfl⟩ := List.getElem?_eq_some_iff.1 h
 rw [List.drop_eq_getElem_cons hk]; rfl
structure CurR where
 (A B C : Option Addr) (la ca lb cb lc cc : Nat)
structure CurD where
 (coils shells plasma : List Int)
abbrev CurR.v (R : CurR) : Value := .agg #[.slice R.A R.la R.ca, .slice R.B R.lb R.cb, .slice R.C R.lc R.cc]
structure IsC (w : World) (R : CurR) (C : CurD) : Prop where
 coils : IsT 1 intCells w R.A R.la C.coils
 shells : IsT 1 intCells w R.B R.lb C.shells
 plasma : IsT 1 intCells w R.C R.lc C.plasma
 la : R.la ≤ R.ca
 lb : R.lb ≤ R.cb
 lc : R.lc ≤ R.cc
 ca : R.ca ≤ 9223372036854775807
 cb : R.cb ≤ 9223372036854775807
 cc : R.cc ≤ 9223372036854775807
 ka : R.la ≤ 1000000000000000
 kb : R.lb ≤ 1000000000000000
 kc : R.lc ≤ 1000000000000000
theorem IsC.below {w w1 : World} {R : CurR} {C : CurD} (h : IsC w R C) (hb : Below w.heap.size w w1) : IsC w1 R C :=
 ⟨h.coils.below hb, h.shells.below hb, h.plasma.below hb, h.la, h.lb, h.lc, h.ca, h.cb, h.cc, h.ka, h.kb, h.kc⟩
set_option maxHeartbeats 1000000 in
theorem total_any (A B C : Option Addr) (la ca lb cb len cap : Nat) (zs : List Int) (w : World) (hI : IsT 1 intCells w C len zs) (hl : len ≤ 1000000000000000) :
  Calls Tryz.prog 10 #[.agg #[.slice A la ca, .slice B lb cb, .slice C len cap]] w (Ret (.int .i64 (tot 0 zs)) w) := by
 have HI := Lib.hid hI
 obtain ⟨G, hG0⟩ : ∃ G, tot 0 zs = G := ⟨_, rfl⟩
 have HG := Lib.hid hG0
 rw [hG0]
 clear hG0 hI
 go_enter Tryz.func10, Tryz.ntmps10
 go_wp2_with fail
 go_loopw [3, 5, 9] (fun s _ i wr => ∃ (j : Nat) (t : Int), j ≤ len ∧ i = .int .i64 j ∧ s = .int .i64 t ∧ Hid (tot t (zs.drop j) = G) ∧ Below w.heap.size w wr) (fun _ _ i _ => len - (intOf i).toNat)
 case atStart => exact ⟨0, 0, Nat.zero_le _, rfl, rfl, Lib.hid HG.out, by (repeat first | with_reducible exact Below.refl _ _ | (with_reducible refine Below.alloc ?_ ?_ _; rotate_left; exact om9))⟩
 case round =>
  obtain ⟨j, t, hj, rfl, rfl, hG, hB⟩ := hrel
  by_cases hlt : j < len
  ·obtain ⟨hzl, hcl⟩ := HI.out.below hB
   obtain ⟨b, o, rfl, hb0, hcl⟩ := hcl om9
   obtain ⟨x, hx⟩ : ∃ x, zs[j]? = some x := ⟨_, List.getElem?_eq_getElem om9⟩
   have HN := Lib.hid ((tot_drop hx t).symm.trans hG.out)
   have x0 : wr.cell? ⟨b, o + j, none⟩ = some (.int .i64 x) := by have h := hcl j x hx 0 _ rfl; simpa using h
   clear hcl hx hzl
   go_wp2_with fail
   go_roundw
   case rel => exact ⟨j + 1, _, by omega, by go_num, rfl, HN, hB⟩
   case measure => simp [intOf]; omega
  ·have HN : Hid (t = G) := Lib.hid (by rw [← hG.out, List.drop_of_length_le (by rw [HI.out.1]; omega)]; rfl)
   go_wp2
   go_ret
   exact ⟨by rw [← HN.out]; rfl, hB⟩
def validC (M : MachD) (C : CurD) : Bool :=
 decide (checkC M = 0) && (decide (C.coils.length = M.coils.length) && (allW C.coils (-1000000) 1000000 && (decide (C.shells.length = M.shells.length) && (allW C.shells (-1000000) 1000000 &&
  (decide ((C.plasma.length : Int) = M.grid.nr * M.grid.nz) && (allW C.plasma 0 1000000 && decide (tot 0 C.plasma ≤ 1000000)))))))
end
section
open Go.RowKit Go.Shelf
attribute [local go_sem] Oper.semAt_some
theorem grown_of_below {a b : World} (h : Below a.heap.size a b) : a.grownBy b none := ⟨h.os, h.tape, h.output, h.size, fun k hk _ => h.block k hk⟩
def KpF (n₀ tm tc : Nat) (W W' : World) : Prop := Below n₀ W W' ∧ ∀ b o, b = tm ∨ b = tc → W'.cell? ⟨b, o, none⟩ = W.cell? ⟨b, o, none⟩
theorem KpF.t {n₀ tm tc : Nat} {A B C : World} (h : KpF n₀ tm tc A B) (k : KpF n₀ tm tc B C) : KpF n₀ tm tc A C := ⟨h.1.trans k.1, fun b o hb => (k.2 b o hb).trans (h.2 b o hb)⟩
theorem KpF.refl (n₀ tm tc : Nat) (A : World) : KpF n₀ tm tc A A := ⟨Below.refl _ _, fun _ _ _ => rfl⟩
theorem KpF.of_below {n₀ tm tc : Nat} {A B : World} (h0 : n₀ ≤ A.heap.size) (h1 : tm < A.heap.size) (h2 : tc < A.heap.size) (h : Below A.heap.size A B) : KpF n₀ tm tc A B :=
 ⟨h.mono h0, fun b o hb => h.cell (p := ⟨b, o, none⟩) (by show b < _; omega)⟩
theorem KpF.b {n₀ tm tc : Nat} {w : World} (hn : n₀ ≤ w.heap.size) (h1 : tm < w.heap.size) (h2 : tc < w.heap.size) (W : World) (l : Nat) (o o' : Obj) (hl : w.heap.size ≤ l) (h : W.heap[l]? = some o) (a : o.isCells = false) (b : o.isWalk = false) : KpF n₀ tm tc W (W.putObj l o') :=
 ⟨belowK_b hn W l o o' hl h a b, fun k i hk => World.cell?_of_block (w := W) (a := ⟨k, i, none⟩) (World.putObj_heap_other (by intro e; dsimp only at e; omega))⟩
theorem KpF.cell {n₀ tm tc : Nat} {W W' : World} (h : KpF n₀ tm tc W W') {b o : Nat} {v : Value} (hb : b = tm ∨ b = tc) (hv : W.cell? ⟨b, o, none⟩ = some v) : W'.cell? ⟨b, o, none⟩ = some v := (h.2 b o hb).trans hv
abbrev Src := (Int × Int) × Int
abbrev srcEnc (x : Src) : Array Value := #[.agg #[.int .i64 x.1.1, .int .i64 x.1.2], .int .i64 x.2]
def cellSrc (g : GridD) (zs : List Int) (k : Nat) : List Src := (List.range k).map fun (j : Nat) => ((cellR g (j : Int), cellZ g (j : Int)), zs[j]?.getD 0)
def fluxW (p : Int × Int) : Int → List Src → Int
 | s, [] => s
 | s, x :: r => fluxW p (wrap64 (s + wrap64 (infl p.1 p.2 x.1.1 x.1.2 * x.2))) r
theorem fluxW_snoc (p : Int × Int) (s : Int) (pre : List Src) (x : Src) : fluxW p s (pre ++ [x]) = wrap64 (fluxW p s pre + wrap64 (infl p.1 p.2 x.1.1 x.1.2 * x.2)) := by
 induction pre generalizing s with
 | nil => rfl
 | cons y r ih => exact ih _
set_option maxHeartbeats 1000000 in
theorem sources_in (n : Nat) (mc cc : Array Value) (w : World) :
  CallsIn Fence.wide n Tryz.prog 101 #[.agg mc, .agg cc] w fun e w' => e = .returned (.func (.func 149) #[] #[.pointer (some ⟨w.heap.size, 0, none⟩), .pointer (some ⟨w.heap.size + 1, 0, none⟩)]) ∧ w' = (w.alloc (.cells mc 29)).alloc (.cells cc 32) := by
 refine callsIn_of_wp Tryz.func101 rfl trivial ?_ rfl
 simp only [Tryz.ntmps101, List.size_toArray, List.length_cons, List.length_nil, Nat.reduceAdd, Nat.reduceSub, Array.replicate_succ, Array.replicate_zero, List.push_toArray, List.append_toArray, List.nil_append, List.cons_append]
 gi_wp2
 go_ret
 exact ⟨rfl, rfl⟩
end
section
section
variable {F : Fence} {n : Nat} {P : Program} {ops : Array Oper} {Q : Exit → Act → World → Prop} {md : Region.Mode} {S : World → Prop}
structure Gives (P : Program) (ops : Array Oper) (S : World → Prop) (o : Oper) (v : Value) (a : Act) : Prop where
 gives : (Region.wanted o (yielded ops a.tmps) = true ∧ ∀ w, S w → (execOp a.eval o).run P w = .ok (.value v) w) ∨ (Region.wanted o (yielded ops a.tmps) = false ∧ v = undef)
 calm : ∀ w, o.about P w a.eval = none
theorem Gives.same {o : Oper} {v : Value} {a b : Act} (h : Gives P ops S o v a) (he : execOp b.eval o = execOp a.eval o) (hw : Region.wanted o (yielded ops b.tmps) = Region.wanted o (yielded ops a.tmps)) (hc : ∀ w, o.about P w b.eval = o.about P w a.eval) : Gives P ops S o v b :=
 ⟨by rw [he, hw]; exact h.gives, fun w => by rw [hc]; exact h.calm w⟩
theorem Gives.step {i : Nat} {o : Oper} {v : Value} {a : Act} (hro : F.round = none) (hi : ops[i]? = some o) (h : Gives P ops S o v a) {K : Act → World → Prop} {w : World} (hS : S w) (hK : K (a.put o.dst v) w) : wpOpIn F n P ops Q i K a w := by
 unfold wpOpIn
 simp only [hi]
 have hab : ∀ f, o.about P w a.eval = some f → F.fn f := fun f hf => by rw [h.calm w] at hf; cases hf
 rcases h.gives with ⟨hw, hv⟩ | ⟨hw, rfl⟩
 ·simp only [hw, if_true, Oper.wpIn, hro, Oper.semAt_none, hv w hS, Oper.uponIn]; exact ⟨hab, hK⟩
 ·simp only [hw, Bool.false_eq_true, if_false]; exact ⟨hab, hK⟩
theorem step_put {j : Nat} {oi oj : Oper} {v : Value} (hro : F.round = none) (hj : ops[j]? = some oj) (hap : oi.apart ops oj = true)
  (hsi : ∀ cs b, oi.op ≠ .select cs b) (hsj : ∀ cs b, oj.op ≠ .select cs b)
  (hQ : ∀ c a w, Q (.panic c) (a.put oi.dst v) w → Q (.panic c) a w) {K : Act → World → Prop} {a : Act} {w : World}
  (hy : Gives P ops S oi v a) (h : wpOpIn F n P ops Q j K (a.put oi.dst v) w) :
  wpOpIn F n P ops Q j (fun a' w' => Gives P ops S oi v a' ∧ K (a'.put oi.dst v) w') a w := by
 obtain ⟨h1, h2, h3⟩ := Oper.apart_spec hap
 have keep : ∀ b : Act, Gives P ops S oi v b → ∀ u, Gives P ops S oi v (b.put oj.dst u) := fun b hb u =>
  hb.same (execOp_put oi hsi b oj.dst u h3) (wanted_put oi b oj.dst u h3) (fun w => about_put oi w b oj.dst u h3)
 unfold wpOpIn at *
 simp only [hj] at *
 rw [wanted_put oj a oi.dst v h1, about_put oj w a oi.dst v h1] at h
 by_cases hw : Region.wanted oj (yielded ops a.tmps) = true
 ·rw [if_pos hw] at h ⊢
  unfold Oper.wpIn at *
  rw [about_put oj w a oi.dst v h1] at h
  obtain ⟨h0, h⟩ := h
  refine ⟨h0, ?_⟩
  rw [hro, Oper.semAt_none, execOp_put oj hsj a oi.dst v h1] at h
  rw [hro, Oper.semAt_none]
  cases hr : (execOp a.eval oj).run P w with
  | halt x w' =>
   rw [hr] at h
   cases x <;> simp only [Oper.uponIn] at h ⊢
   case panic u => exact hQ _ _ _ h
  | ok x w' =>
   rw [hr] at h
   cases x <;> simp only [Oper.uponIn] at h ⊢
   case value u => exact ⟨keep a hy u, by rw [← Act.put_comm a v u h2]; exact h⟩
   case skip => exact ⟨keep a hy _, by rw [← Act.put_comm a v undef h2]; exact h⟩
   case defer d => exact ⟨keep _ (hy.same (b := { a with defers := d :: a.defers }) rfl rfl (fun _ => rfl)) _, by rw [← Act.put_comm _ v undef h2, ← Act.put_defers]; exact h⟩
   case enter f args =>
    refine ⟨h.1, CallsIn.mono h.2 fun e w'' he => ?_⟩
    cases e with
    | returned u => exact ⟨keep a hy u, by rw [← Act.put_comm a v u h2]; exact he⟩
    | panicked c => exact hQ _ _ _ he
    | outgrown => exact he
   case row row args => exact ⟨h.1, RowsIn.mono h.2 fun u w'' he => ⟨keep a hy u, by rw [← Act.put_comm a v u h2]; exact he⟩⟩
   case round l f tmps assign body =>
    refine ⟨h.1, RoundIn.mono h.2 fun e w'' he => ?_⟩
    cases e with
    | returned u => exact ⟨keep a hy u, by rw [← Act.put_comm a v u h2]; exact he⟩
    | panicked c => exact hQ _ _ _ he
    | outgrown => exact he
 ·rw [if_neg hw] at h ⊢
  exact ⟨h.1, keep a hy _, by rw [← Act.put_comm a v undef h2]; exact h.2⟩
def Closed (md : Region.Mode) (ops : Array Oper) (listed : Array Bool) : Prop :=
 ∀ (k : Nat) (o : Oper), ops[k]? = some o → listed.getD k false = true → ∀ e ∈ o.after, Region.binds md e = true → listed.getD e.on false = true
theorem getD_keep {listed : Array Bool} {i k : Nat} (h : listed.getD k false = true) : (listed.setIfInBounds i true).getD k false = true := by
 by_cases e : i = k
 ·subst e
  rcases Nat.lt_or_ge i listed.size with h' | h'
  ·simp [h']
  ·simp [Array.getElem?_eq_none h'] at h
 ·rw [getD_set_ne false e]; exact h
theorem Closed.step {listed : Array Bool} {j : Nat} (h : Closed md ops listed) (hj : j ∈ Region.ready md ops listed) : Closed md ops (listed.setIfInBounds j true) := by
 intro k o ho hk e he hb
 by_cases hjk : j = k
 ·subst hjk
  obtain ⟨-, o', ho', hall⟩ := mem_ready.1 hj
  obtain rfl : o' = o := Option.some.inj (ho'.symm.trans ho)
  exact getD_keep (hall e he hb)
 ·rw [getD_set_ne false hjk] at hk
  exact getD_keep (h k o ho hk e he hb)
def waitsB (md : Region.Mode) (ops : Array Oper) (c : Nat) : Nat → List Nat → Bool
 | i, [] => i == c
 | i, k :: r => (match ops[k]? with
  | some o => o.after.any fun e => Region.binds md e && e.on == i
  | none => false) && waitsB md ops c k r
theorem waits_listed {listed : Array Bool} {c : Nat} (h : Closed md ops listed) (hc : listed.getD c false = true) : ∀ (ks : List Nat) (i : Nat), waitsB md ops c i ks = true → listed.getD i false = true := by
  intro ks
  induction ks with
  | nil => intro i hi; obtain rfl : i = c := by simpa [waitsB] using hi
           exact hc
  | cons k r ih =>
    intro i hi
    unfold waitsB at hi
    rw [Bool.and_eq_true] at hi
    have hk := ih k hi.2
    cases ho : ops[k]? with
    | none => rw [ho] at hi; exact absurd hi.1 (by simp)
    | some o =>
      rw [ho] at hi
      obtain ⟨e, he, hb⟩ := Array.any_eq_true'.1 hi.1
      rw [Bool.and_eq_true, beq_iff_eq] at hb
      rw [← hb.2]
      exact h k o ho hk e he hb.1
def closedB (md : Region.Mode) (ops : Array Oper) (listed : Array Bool) : Bool :=
 (List.range ops.size).all fun k => match ops[k]? with
  | some o => !listed.getD k false || o.after.all fun e => !Region.binds md e || listed.getD e.on false
  | none => true
theorem closed_of {listed : Array Bool} (h : closedB md ops listed = true) : Closed md ops listed := by
 intro k o ho hk e he hb
 have hlt : k < ops.size := (Array.getElem?_eq_some_iff.1 ho).1
 have h1 := List.all_eq_true.1 h k (List.mem_range.2 hlt)
 rw [ho] at h1
 dsimp only at h1
 rw [hk] at h1
 have h2 := Array.all_eq_true'.1 (by simpa using h1 : o.after.all (fun e => !Region.binds md e || listed.getD e.on false) = true) e he
 rw [hb] at h2
 simpa using h2
def anyW (F : Fence) (n : Nat) (P : Program) (md : Region.Mode) (ops : Array Oper) (Q : Exit → Act → World → Prop) (c : Nat) (W : World) : Nat → Array Bool → Act → World → Prop
 | 0, listed, a, w => Region.ready md ops listed = [] ∧ Q .normal a w
 | fuel + 1, listed, a, w => (Region.ready md ops listed = [] → Q .normal a w) ∧
  ∀ i ∈ Region.ready md ops listed, wpOpIn F n P ops Q i (fun b w' => ((listed.setIfInBounds i true).getD c false = true ∨ w' = W) ∧ anyW F n P md ops Q c W fuel (listed.setIfInBounds i true) b w') a w
theorem any_of_anyW {c : Nat} {W : World} : ∀ (fuel : Nat) (listed : Array Bool) (a : Act) (w : World), anyW F n P md ops Q c W fuel listed a w → wpAnyIn F n P md ops Q fuel listed a w
 | 0, _, _, _, h => h
 | fuel + 1, _, _, _, h => ⟨h.1, fun i hi => wpOpIn_mono (fun b w' hb => any_of_anyW fuel _ b w' hb.2) (h.2 i hi)⟩
theorem anyW_rest {c : Nat} {W : World} : ∀ (fuel : Nat) (listed : Array Bool) (a : Act) (w : World), listed.getD c false = true → wpAnyIn F n P md ops Q fuel listed a w → anyW F n P md ops Q c W fuel listed a w
 | 0, _, _, _, _, h => h
 | fuel + 1, _, _, _, hc, h => ⟨h.1, fun i hi => wpOpIn_mono (fun b w' hb => ⟨.inl (getD_keep hc), anyW_rest fuel _ b w' (getD_keep hc) hb⟩) (h.2 i hi)⟩
theorem anyW_first {c i : Nat} {W : World} {oi : Oper} {v : Value} (ks : List Nat) (hro : F.round = none) (hi : ops[i]? = some oi) (hsel : ∀ (j : Nat) (o : Oper) cs b, ops[j]? = some o → o.op ≠ .select cs b)
  (hks : waitsB md ops c i ks = true) (hic : i ≠ c) (hQ : ∀ c a w, Q (.panic c) (a.put oi.dst v) w → Q (.panic c) a w) :
  ∀ (fuel : Nat) (listed : Array Bool) (a : Act) (w : World), Closed md ops listed →
   (∀ j oj, ops[j]? = some oj → j ≠ i → listed.getD j true = false → (∀ e ∈ oj.after, Region.binds md e = true → e.on ≠ i) → oi.apart ops oj = true) →
   i ∈ Region.ready md ops listed → Gives P ops (fun w => w = W) oi v a → (listed.getD c false = true ∨ w = W) →
   anyW F n P md ops Q c W fuel (listed.setIfInBounds i true) (a.put oi.dst v) w → anyW F n P md ops Q c W (fuel + 1) listed a w := by
 have unl : ∀ listed : Array Bool, Closed md ops listed → i ∈ Region.ready md ops listed → ¬ listed.getD c false = true := fun listed hcl hr hc => by
  have h1 := waits_listed hcl hc ks i hks
  have h0 := (mem_ready.1 hr).1
  rcases Nat.lt_or_ge i listed.size with h' | h'
  ·simp [h'] at h0 h1; rw [h0] at h1; cases h1
  ·simp [Array.getElem?_eq_none h'] at h1
 intro fuel
 induction fuel with
 | zero =>
  intro listed a w hcl _ hr hy hw H
  have hW := hw.resolve_left (unl listed hcl hr)
  refine ⟨fun h0 => (by rw [h0] at hr; cases hr), fun j hj => ?_⟩
  by_cases e : j = i
  ·subst e; exact hy.step hro hi hW ⟨.inr hW, H⟩
  ·have h1 := ready_mono hj e
   rw [H.1] at h1
   cases h1
 | succ fuel ih =>
  intro listed a w hcl hap hr hy hw H
  have hW := hw.resolve_left (unl listed hcl hr)
  refine ⟨fun h0 => (by rw [h0] at hr; cases hr), fun j hj => ?_⟩
  by_cases e : j = i
  ·subst e; exact hy.step hro hi hW ⟨.inr hW, H⟩
  ·obtain ⟨hjun, oj, hoj, hall⟩ := mem_ready.1 hj
   have hiun := (mem_ready.1 hr).1
   have hnot : ∀ x ∈ oj.after, Region.binds md x = true → x.on ≠ i := fun x hx hb heq => by
    have h1 := hall x hx hb
    rw [heq] at h1
    rcases Nat.lt_or_ge i listed.size with h' | h'
    ·simp [h'] at hiun h1; rw [hiun] at h1; cases h1
    ·simp [Array.getElem?_eq_none h'] at h1
   have h2 := step_put hro hoj (hap j oj hoj e hjun hnot) (fun cs b => hsel i oi cs b hi) (fun cs b => hsel j oj cs b hoj) hQ hy (H.2 j (ready_mono hj e))
   refine wpOpIn_mono (fun b w' h3 => ?_) h2
   have h4 : (listed.setIfInBounds j true).getD c false = true ∨ w' = W := h3.2.1.imp (fun h => by
    rw [Array.setIfInBounds_comm _ _ (Ne.symm e), getD_set_ne false hic] at h; exact h) id
   refine ⟨h4, ih (listed.setIfInBounds j true) b w' (hcl.step hj) (fun k ok hk hki hun hno => hap k ok hk hki ?_ hno) (ready_mono hr (Ne.symm e)) h3.1 h4 ?_⟩
   ·by_cases hjk : j = k
    ·subst hjk; exact hjun
    ·rw [getD_set_ne true hjk] at hun; exact hun
   ·rw [Array.setIfInBounds_comm _ _ e]
    exact h3.2.2
theorem anyW_take {c i : Nat} {W : World} {oi : Oper} {v : Value} {fuel : Nat} {listed : Array Bool} {a : Act} {w : World} (ks : List Nat) (d : Option Tmp) (hro : F.round = none) (hi : ops[i]? = some oi) (hd : oi.dst = d)
  (hs : Region.noSelect ops = true) (hf : Region.free md ops listed i = true) (hr : (Region.ready md ops listed).contains i = true) (hks : (waitsB md ops c i ks && !(i == c)) = true) (hcl : closedB md ops listed = true)
  (hQ : ∀ c a w, Q (.panic c) (a.put oi.dst v) w → Q (.panic c) a w) (hy : Gives P ops (fun w => w = W) oi v a) (hw : listed.getD c false = true ∨ w = W)
  (h : anyW F n P md ops Q c W fuel (listed.setIfInBounds i true) (a.put d v) w) : anyW F n P md ops Q c W (fuel + 1) listed a w := by
 subst hd
 rw [Bool.and_eq_true] at hks
 exact anyW_first ks hro hi (Region.noSelect_spec hs) hks.1 (by simpa using hks.2) hQ fuel listed a w (closed_of hcl) (Region.free_spec hi hf) (by simpa using hr) hy hw h
theorem anyW_one {c : Nat} {W : World} {o : Oper} {fuel : Nat} {listed : Array Bool} {a : Act} {w : World} (hr : Region.ready md ops listed = [c]) (ho : ops[c]? = some o) (hin : (listed.setIfInBounds c true).getD c false = true)
  (h : ∀ K : Act → World → Prop, (∀ b w', wpAnyIn F n P md ops Q fuel (listed.setIfInBounds c true) b w' → K b w') → if Region.wanted o (yielded ops a.tmps) = true then Oper.wpIn F n P o a w K Q else (∀ f, o.about P w a.eval = some f → F.fn f) ∧ K (a.put o.dst undef) w) :
  anyW F n P md ops Q c W (fuel + 1) listed a w :=
 ⟨fun h0 => (by rw [hr] at h0; cases h0), fun j hj => by
  rw [hr] at hj
  obtain rfl : j = c := by simpa using hj
  exact wpOpIn_step ho fun K hK => h K fun b w' hb => hK b w' ⟨.inl hin, anyW_rest _ _ _ _ hin hb⟩⟩
theorem anyIn_takeD {i : Nat} {oi : Oper} {v : Value} {fuel : Nat} {listed : Array Bool} {a : Act} {w : World} (d : Option Tmp) (hro : F.round = none) (hi : ops[i]? = some oi) (hd : oi.dst = d)
  (hs : Region.noSelect ops = true) (hf : Region.free md ops listed i = true) (hr : (Region.ready md ops listed).contains i = true)
  (hQ : ∀ c a w, Q (.panic c) (a.put oi.dst v) w → Q (.panic c) a w) (hy : YieldsFenced P ops oi v a)
  (h : wpAnyIn F n P md ops Q fuel (listed.setIfInBounds i true) (a.put d v) w) : wpAnyIn F n P md ops Q (fuel + 1) listed a w := by
 subst hd; exact wpAnyIn_take hro hi hs hf hr hQ hy h
theorem region_W {id : Nat} {a : Act} {w : World} (c : Nat) (hm : P.follows .mixedOrders = true)
  (h : anyW F n P .any ops Q c w.drew ops.size (Array.replicate ops.size false) a w.drew) : (Code.region id ops true).wpIn F n P Q a w :=
 wpIn_region_any hm (any_of_anyW _ _ _ _ h)
end
end
end Go.Proofs.YthggkidiidnaoaaGreat
