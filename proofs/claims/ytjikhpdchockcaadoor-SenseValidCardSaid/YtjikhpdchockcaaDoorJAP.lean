import Derived.Test.YtjikhpdchockcaaDoorJAA
import Derived.Test.YtjikhpdchockcaaDoorJAD
import Derived.Deep.RegionHeld3
import Derived.Deep.DeepCutAuto
import Derived.Deep.QuietTactic
import Derived.BigQuiet
import Derived.IntWalk
import Derived.Laws.BitsAllLaws
import Derived.Laws.Bits64
import Derived.RangeFuncNested
import Derived.RangeFuncBound
import Derived.RangeFuncCalls
import Derived.RangeFuncLeaves
import Derived.Shelf.Abstract
import Derived.Shelf.RegionOpen
import Derived.WalkKit
import Derived.OwnWalkIn
import Derived.TacticsInMore
import Derived.LoopNIn
import Derived.LoopIn
section
/- Package sense and its specification: contracts of Mix, over this seat's translation. -/
namespace Go.Proofs.YtjikhpdchockcaaDoor
set_option linter.unusedVariables false
set_option linter.unusedSimpArgs false
open Go.RowKit

/-- One round of Mix. -/
def mx1 (h v : Nat) : Nat := ((((h ^^^ v) * 2654435761 % 4294967296) ^^^ ((h ^^^ v) * 2654435761 % 4294967296) / 32768) * 2246822507 % 4294967296) ^^^ (((((h ^^^ v) * 2654435761 % 4294967296) ^^^ ((h ^^^ v) * 2654435761 % 4294967296) / 32768) * 2246822507 % 4294967296) / 8192)
def mixN (s a b : Nat) : Nat := mx1 (mx1 s a) b

/-- What one round computes, number by number. -/
structure MixR (h v x1 x2 x3 x4 x5 x6 x7 : Nat) : Prop where
  l1 : x1 < 4294967296
  l2 : x2 < 4294967296
  l4 : x4 < 4294967296
  l5 : x5 < 4294967296
  l7 : x7 < 4294967296
  l3 : x3 < 4294967296
  l6 : x6 < 4294967296
  a1 : bits BinOp.xor IntKind.u32 (h : Int) (v : Int) = (x1 : Int)
  a2 : IntKind.u32.wrap ((x1 : Int) * 2654435761) = (x2 : Int)
  a3 : (x2 : Int) / 32768 = (x3 : Int)
  a4 : bits BinOp.xor IntKind.u32 (x2 : Int) (x3 : Int) = (x4 : Int)
  a5 : IntKind.u32.wrap ((x4 : Int) * 2246822507) = (x5 : Int)
  a6 : (x5 : Int) / 8192 = (x6 : Int)
  a7 : bits BinOp.xor IntKind.u32 (x5 : Int) (x6 : Int) = (x7 : Int)
  b1 : bits BinOp.xor IntKind.u64 (h : Int) (v : Int) = (x1 : Int)
  b2 : (x1 : Int) * 2654435761 % 4294967296 = (x2 : Int)
  b4 : bits BinOp.xor IntKind.u64 (x2 : Int) (x3 : Int) = (x4 : Int)
  b5 : (x4 : Int) * 2246822507 % 4294967296 = (x5 : Int)
  b7 : bits BinOp.xor IntKind.u64 (x5 : Int) (x6 : Int) = (x7 : Int)
  e : x7 = mx1 h v
theorem xor32 {a b : Nat} (ha : a < 4294967296) (hb : b < 4294967296) : a ^^^ b < 4294967296 := by
  have : a ^^^ b < 2 ^ 32 := Nat.xor_lt_two_pow (by omega) (by omega)
  omega
theorem mixR_of {h v : Nat} (hh : h < 4294967296) (hv : v < 4294967296) : ∃ x1 x2 x3 x4 x5 x6 x7, MixR h v x1 x2 x3 x4 x5 x6 x7 := by
  have l1 := xor32 hh hv
  have e1 := u32_xor_nat h v hh hv
  have f1 := bits_xor_u64_nat h v (by omega) (by omega)
  obtain ⟨x1, hx1⟩ : ∃ x, h ^^^ v = x := ⟨_, rfl⟩
  rw [hx1] at l1 e1 f1
  obtain ⟨x2, hx2⟩ : ∃ x, x1 * 2654435761 % 4294967296 = x := ⟨_, rfl⟩
  have l2 : x2 < 4294967296 := by omega
  obtain ⟨x3, hx3⟩ : ∃ x, x2 / 32768 = x := ⟨_, rfl⟩
  have l3 : x3 < 4294967296 := by omega
  have l4 := xor32 l2 l3
  have e4 := u32_xor_nat x2 x3 l2 l3
  have f4 := bits_xor_u64_nat x2 x3 (by omega) (by omega)
  obtain ⟨x4, hx4⟩ : ∃ x, x2 ^^^ x3 = x := ⟨_, rfl⟩
  rw [hx4] at l4 e4 f4
  obtain ⟨x5, hx5⟩ : ∃ x, x4 * 2246822507 % 4294967296 = x := ⟨_, rfl⟩
  have l5 : x5 < 4294967296 := by omega
  obtain ⟨x6, hx6⟩ : ∃ x, x5 / 8192 = x := ⟨_, rfl⟩
  have l6 : x6 < 4294967296 := by omega
  have l7 := xor32 l5 l6
  have e7 := u32_xor_nat x5 x6 l5 l6
  have f7 := bits_xor_u64_nat x5 x6 (by omega) (by omega)
  refine ⟨x1, x2, x3, x4, x5, x6, x5 ^^^ x6, l1, l2, l4, l5, l7, l3, l6, e1, ?_, ?_, e4, ?_, ?_, e7, f1, ?_, f4, ?_, f7, ?_⟩
  · rw [IntKind.wrap_u32']; omega
  · omega
  · rw [IntKind.wrap_u32']; omega
  · omega
  · omega
  · omega
  · unfold mx1
    rw [hx1, hx2, hx3, hx4, hx5, hx6]

set_option maxHeartbeats 2000000 in
theorem mix_any (s a b : Nat) (w : World) (hs : s < 4294967296) (ha : a < 4294967296) (hb : b < 4294967296) :
    Calls Tryd.prog 13 #[.int .u32 s, .int .u32 a, .int .u32 b] w fun e w' => e = .returned (.int .u32 (mixN s a b)) ∧ w = w' := by
  have i0 : ∀ w, (Instr.index 81 (.agg #[.int .u32 a, .int .u32 b]) (.int .i64 0)).run Tryd.prog w = .ok (.int .u32 a) w := fun _ => by kernel_rfl
  have i1 : ∀ w, (Instr.index 81 (.agg #[.int .u32 a, .int .u32 b]) (.int .i64 1)).run Tryd.prog w = .ok (.int .u32 b) w := fun _ => by kernel_rfl
  obtain ⟨x1, x2, x3, x4, x5, x6, x7, hX⟩ := mixR_of hs ha
  obtain ⟨y1, y2, y3, y4, y5, y6, y7, hY⟩ := mixR_of hX.l7 hb
  have HE : Hid ((y7 : Int) = (mixN s a b : Nat)) := Lib.hid (by unfold mixN; rw [← hX.e, ← hY.e])
  generalize ((mixN s a b : Nat) : Int) = G at *
  have HX := Lib.hid hX
  have HY := Lib.hid hY
  clear hX hY
  go_enter Tryd.func13, Tryd.ntmps13
  go_wp2
  go_loop [7, 9, 14] (fun h _ i => (i = .int .i64 0 ∧ h = .int .u32 s) ∨ (i = .int .i64 1 ∧ h = .int .u32 x7) ∨ (i = .int .i64 2 ∧ h = .int .u32 y7)) (fun _ _ i => 2 - (intOf i).toNat)
  case atStart => exact Or.inl ⟨rfl, rfl⟩
  case round =>
    rcases hrel with ⟨rfl, rfl⟩ | ⟨rfl, rfl⟩ | ⟨rfl, rfl⟩
    · obtain ⟨l1, l2, l4, l5, l7, l3, l6, a1, a2, a3, a4, a5, a6, a7, -, -, -, -, -, -⟩ := HX.out
      clear i1
      go_wp2
      go_round
      case rel => exact Or.inr (Or.inl ⟨rfl, rfl⟩)
      case measure => simp [intOf]
    · obtain ⟨l1, l2, l4, l5, l7, l3, l6, a1, a2, a3, a4, a5, a6, a7, -, -, -, -, -, -⟩ := HY.out
      clear i0
      go_wp2
      go_round
      case rel => exact Or.inr (Or.inr ⟨rfl, rfl⟩)
      case measure => simp [intOf]
    · go_wp2
      go_ret
      exact ⟨by rw [← HE.out]; rfl, rfl⟩

set_option maxHeartbeats 2000000 in
theorem rmix_any (s a b : Nat) (w : World) (hs : s < 4294967296) (ha : a < 4294967296) (hb : b < 4294967296) :
    Calls Tryd.prog 14 #[.int .u32 s, .int .u32 a, .int .u32 b] w (Ret (.int .u32 (mixN s a b)) w) := by
  obtain ⟨x1, x2, x3, x4, x5, x6, x7, hX⟩ := mixR_of hs ha
  obtain ⟨y1, y2, y3, y4, y5, y6, y7, hY⟩ := mixR_of hX.l7 hb
  have HE : Hid ((y7 : Int) = (mixN s a b : Nat)) := Lib.hid (by unfold mixN; rw [← hX.e, ← hY.e])
  generalize ((mixN s a b : Nat) : Int) = G at *
  have cs : IntKind.u64.wrap (s : Int) = s := by rw [IntKind.wrap_u64]; omega
  have ca : IntKind.u64.wrap (a : Int) = a := by rw [IntKind.wrap_u64]; omega
  have cb : IntKind.u64.wrap (b : Int) = b := by rw [IntKind.wrap_u64]; omega
  have cy : IntKind.u32.wrap (y7 : Int) = y7 := by have := hY.l7; rw [IntKind.wrap_u32']; omega
  have m1 : IntKind.u64.wrap ((x1 : Int) * 2654435761) = (x1 : Int) * 2654435761 := by have := hX.l1; rw [IntKind.wrap_u64]; omega
  have m2 : IntKind.u64.wrap ((x4 : Int) * 2246822507) = (x4 : Int) * 2246822507 := by have := hX.l4; rw [IntKind.wrap_u64]; omega
  have k1 : IntKind.u64.wrap ((y1 : Int) * 2654435761) = (y1 : Int) * 2654435761 := by have := hY.l1; rw [IntKind.wrap_u64]; omega
  have k2 : IntKind.u64.wrap ((y4 : Int) * 2246822507) = (y4 : Int) * 2246822507 := by have := hY.l4; rw [IntKind.wrap_u64]; omega
  have HX := Lib.hid hX
  have HY := Lib.hid hY
  clear hX hY
  have HM := Lib.hid (And.intro (And.intro m1 m2) (And.intro k1 k2))
  clear m1 m2 k1 k2
  go_enter Tryd.func14, Tryd.ntmps14
  go_wp2
  clear cs ca cb
  go_loopw [7, 9] (fun h i wr => ((i = .int .i64 0 ∧ h = .int .u64 s) ∨ (i = .int .i64 1 ∧ h = .int .u64 x7) ∨ (i = .int .i64 2 ∧ h = .int .u64 y7)) ∧ Below w.heap.size w wr ∧ wr.cell? ⟨w.heap.size, 0, none⟩ = some (.int .u64 a) ∧ wr.cell? ⟨w.heap.size, 1, none⟩ = some (.int .u64 b)) (fun _ i _ => 2 - (intOf i).toNat)
  case atStart => exact ⟨Or.inl ⟨rfl, rfl⟩, by (repeat first | with_reducible exact Below.refl _ _ | with_reducible assumption | (with_reducible refine Below.setCell ?_ ?_ _; rotate_left; exact (by first | omega | (simp; done) | (simp; omega))) | (with_reducible refine Below.alloc ?_ ?_ _; rotate_left; exact (by first | omega | (simp; done) | (simp; omega))) | with_reducible refine Below.drew ?_ | with_reducible refine Below_drewN ?_ _), by go_simp, by go_simp⟩
  case round =>
    obtain ⟨⟨rfl, rfl⟩ | ⟨rfl, rfl⟩ | ⟨rfl, rfl⟩, hB, q0, q1⟩ := hrel
    · obtain ⟨l1, l2, l4, l5, l7, l3, l6, -, -, a3, -, -, a6, -, b1, b2, b4, b5, b7, -⟩ := HX.out
      obtain ⟨⟨m1, m2⟩, _⟩ := HM.out
      have t1 : ((x1 : Int) * 2654435761).tmod 4294967296 = (x2 : Int) := by rw [Int.tmod_eq_emod_of_nonneg (by omega)]; exact b2
      have t2 : ((x4 : Int) * 2246822507).tmod 4294967296 = (x5 : Int) := by rw [Int.tmod_eq_emod_of_nonneg (by omega)]; exact b5
      have t3 : (x2 : Int).tdiv 32768 = (x3 : Int) := by rw [Int.tdiv_eq_ediv_of_nonneg (by omega)]; exact a3
      have t4 : (x5 : Int).tdiv 8192 = (x6 : Int) := by rw [Int.tdiv_eq_ediv_of_nonneg (by omega)]; exact a6
      go_wp2
      go_roundw
      case rel => exact ⟨Or.inr (Or.inl ⟨rfl, rfl⟩), by (repeat first | with_reducible exact Below.refl _ _ | with_reducible assumption | (with_reducible refine Below.setCell ?_ ?_ _; rotate_left; exact (by first | omega | (simp; done) | (simp; omega))) | (with_reducible refine Below.alloc ?_ ?_ _; rotate_left; exact (by first | omega | (simp; done) | (simp; omega))) | with_reducible refine Below.drew ?_ | with_reducible refine Below_drewN ?_ _), by go_simp, by go_simp⟩
      case measure => simp [intOf]
    · obtain ⟨l1, l2, l4, l5, l7, l3, l6, -, -, a3, -, -, a6, -, b1, b2, b4, b5, b7, -⟩ := HY.out
      obtain ⟨_, ⟨m1, m2⟩⟩ := HM.out
      have t1 : ((y1 : Int) * 2654435761).tmod 4294967296 = (y2 : Int) := by rw [Int.tmod_eq_emod_of_nonneg (by omega)]; exact b2
      have t2 : ((y4 : Int) * 2246822507).tmod 4294967296 = (y5 : Int) := by rw [Int.tmod_eq_emod_of_nonneg (by omega)]; exact b5
      have t3 : (y2 : Int).tdiv 32768 = (y3 : Int) := by rw [Int.tdiv_eq_ediv_of_nonneg (by omega)]; exact a3
      have t4 : (y5 : Int).tdiv 8192 = (y6 : Int) := by rw [Int.tdiv_eq_ediv_of_nonneg (by omega)]; exact a6
      go_wp2
      go_roundw
      case rel => exact ⟨Or.inr (Or.inr ⟨rfl, rfl⟩), by (repeat first | with_reducible exact Below.refl _ _ | with_reducible assumption | (with_reducible refine Below.setCell ?_ ?_ _; rotate_left; exact (by first | omega | (simp; done) | (simp; omega))) | (with_reducible refine Below.alloc ?_ ?_ _; rotate_left; exact (by first | omega | (simp; done) | (simp; omega))) | with_reducible refine Below.drew ?_ | with_reducible refine Below_drewN ?_ _), by go_simp, by go_simp⟩
      case measure => simp [intOf]
    · go_wp2
      go_ret
      exact ⟨by rw [← HE.out]; rfl, by (repeat first | with_reducible exact Below.refl _ _ | with_reducible assumption | (with_reducible refine Below.setCell ?_ ?_ _; rotate_left; exact (by first | omega | (simp; done) | (simp; omega))) | (with_reducible refine Below.alloc ?_ ?_ _; rotate_left; exact (by first | omega | (simp; done) | (simp; omega))) | with_reducible refine Below.drew ?_ | with_reducible refine Below_drewN ?_ _)⟩

end Go.Proofs.YtjikhpdchockcaaDoor
end
section
/- slices.IndexFunc and ContainsFunc over []int, over this seat's translation (written by mk_mac.py). -/
namespace Go.Proofs.YtjikhpdchockcaaDoor
set_option linter.unusedVariables false
set_option linter.unusedSimpArgs false
open Go.RowKit

set_option maxHeartbeats 2000000 in
theorem indexint2 (k : Nat) (c0 : Nat) (c1 : Nat) (p : Int → Bool) (A : Option Addr) (len cap : Nat) (zs : List Int) (w : World) (hI : IsT 1 intCells w A len zs) (hl : len ≤ 1000000000000000)
    (hE : ∀ (args : Array Value) (W : World), (callFunc k args).run Tryd.prog W = .ok (.enter k args) W)
    (hk : ∀ (x : Int) (W : World), x ∈ zs → Below w.heap.size w W → Calls Tryd.prog k #[intV x, .pointer (some ⟨c0, 0, none⟩), .pointer (some ⟨c1, 0, none⟩)] W (Ret (.bool (p x)) W)) :
    Calls Tryd.prog 132 #[.slice A len cap, .func (.func k) #[] #[.pointer (some ⟨c0, 0, none⟩), .pointer (some ⟨c1, 0, none⟩)]] w (Ret (.int .i64 (idxL p zs)) w) := by
  have HI := Lib.hid hI
  have HK := Lib.hid hk
  have HG : Hid (idxL p zs = idxGo p zs 0) := Lib.hid rfl
  generalize idxL p zs = G at *
  clear hI hk
  go_enter Tryd.func132, Tryd.ntmps132
  go_wp2_with fail
  go_loopw [5, 8] (fun _ i wr => ∃ j : Nat, j ≤ len ∧ i = .int .i64 j ∧ Hid (idxGo p (zs.drop j) j = G) ∧ Below w.heap.size w wr) (fun _ i _ => len - (intOf i).toNat)
  case atStart => exact ⟨0, Nat.zero_le _, rfl, Lib.hid HG.out.symm, Below.refl _ _⟩
  case round =>
    obtain ⟨j, hj, rfl, hG, hB⟩ := hrel
    by_cases hlt : j < len
    · obtain ⟨hzl, hcl⟩ := HI.out.below hB
      obtain ⟨b, o, rfl, hb0, hcl⟩ := hcl (by omega)
      obtain ⟨x, hx⟩ : ∃ x, zs[j]? = some x := ⟨_, List.getElem?_eq_getElem (by omega)⟩
      have HM := Lib.hid (List.mem_of_getElem? hx)
      have HS := Lib.hid (idxGo_drop p hx (j : Int))
      have x0 : wr.cell? ⟨b, o + j, none⟩ = some (.int .i64 x) := by have h := hcl j x hx 0 _ rfl; simpa using h
      have hsz := hB.size
      have HC := Lib.hid (HK.out x)
      clear hcl hx hzl
      cases hp : p x
      · have HN : Hid (idxGo p (zs.drop (j + 1)) ((j + 1 : Nat) : Int) = G) := Lib.hid (by rw [← hG.out, HS.out, hp]; rfl)
        have HC := Lib.hid (show ∀ W, Below w.heap.size w W → Calls Tryd.prog k #[intV x, .pointer (some ⟨c0, 0, none⟩), .pointer (some ⟨c1, 0, none⟩)] W (Ret (.bool false) W) from fun W h => by have := HC.out W HM.out h; rwa [hp] at this)
        clear hp
        go_wp2_with ((with_reducible show Calls _ k _ _ _); refine (HC.out _ (by (repeat first | with_reducible exact Below.refl _ _ | with_reducible assumption | (with_reducible refine Below.setCell ?_ ?_ _; rotate_left; exact (by first | omega | (simp; done) | (simp; omega))) | (with_reducible refine Below.alloc ?_ ?_ _; rotate_left; exact (by first | omega | (simp; done) | (simp; omega))) | with_reducible refine Below.drew ?_ | with_reducible refine Below_drewN ?_ _))).mono ?_; rintro e w1 ⟨rfl, hb⟩; have hB1 : Below w.heap.size w w1 := Below.trans (by (repeat first | with_reducible exact Below.refl _ _ | with_reducible assumption | (with_reducible refine Below.setCell ?_ ?_ _; rotate_left; exact (by first | omega | (simp; done) | (simp; omega))) | (with_reducible refine Below.alloc ?_ ?_ _; rotate_left; exact (by first | omega | (simp; done) | (simp; omega))) | with_reducible refine Below.drew ?_ | with_reducible refine Below_drewN ?_ _)) (hb.mono (by first | omega | ((try simp only [World.size_alloc, World.size_setCell, size_drew, size_drewN]); omega) | (simp; done) | (simp; omega))))
        go_roundw
        case rel => exact ⟨j + 1, by omega, by go_num, HN, by (repeat first | with_reducible exact Below.refl _ _ | with_reducible assumption | (with_reducible refine Below.setCell ?_ ?_ _; rotate_left; exact (by first | omega | (simp; done) | (simp; omega))) | (with_reducible refine Below.alloc ?_ ?_ _; rotate_left; exact (by first | omega | (simp; done) | (simp; omega))) | with_reducible refine Below.drew ?_ | with_reducible refine Below_drewN ?_ _)⟩
        case measure => simp [intOf]; omega
      · have HN : Hid ((j : Int) = G) := Lib.hid (by rw [← hG.out, HS.out, hp]; rfl)
        have HC := Lib.hid (show ∀ W, Below w.heap.size w W → Calls Tryd.prog k #[intV x, .pointer (some ⟨c0, 0, none⟩), .pointer (some ⟨c1, 0, none⟩)] W (Ret (.bool true) W) from fun W h => by have := HC.out W HM.out h; rwa [hp] at this)
        clear hp
        go_wp2_with ((with_reducible show Calls _ k _ _ _); refine (HC.out _ (by (repeat first | with_reducible exact Below.refl _ _ | with_reducible assumption | (with_reducible refine Below.setCell ?_ ?_ _; rotate_left; exact (by first | omega | (simp; done) | (simp; omega))) | (with_reducible refine Below.alloc ?_ ?_ _; rotate_left; exact (by first | omega | (simp; done) | (simp; omega))) | with_reducible refine Below.drew ?_ | with_reducible refine Below_drewN ?_ _))).mono ?_; rintro e w1 ⟨rfl, hb⟩; have hB1 : Below w.heap.size w w1 := Below.trans (by (repeat first | with_reducible exact Below.refl _ _ | with_reducible assumption | (with_reducible refine Below.setCell ?_ ?_ _; rotate_left; exact (by first | omega | (simp; done) | (simp; omega))) | (with_reducible refine Below.alloc ?_ ?_ _; rotate_left; exact (by first | omega | (simp; done) | (simp; omega))) | with_reducible refine Below.drew ?_ | with_reducible refine Below_drewN ?_ _)) (hb.mono (by first | omega | ((try simp only [World.size_alloc, World.size_setCell, size_drew, size_drewN]); omega) | (simp; done) | (simp; omega))))
        go_ret
        exact ⟨by rw [← HN.out]; rfl, by (repeat first | with_reducible exact Below.refl _ _ | with_reducible assumption | (with_reducible refine Below.setCell ?_ ?_ _; rotate_left; exact (by first | omega | (simp; done) | (simp; omega))) | (with_reducible refine Below.alloc ?_ ?_ _; rotate_left; exact (by first | omega | (simp; done) | (simp; omega))) | with_reducible refine Below.drew ?_ | with_reducible refine Below_drewN ?_ _)⟩
    · have HN : Hid ((-1 : Int) = G) := Lib.hid (by rw [← hG.out, List.drop_of_length_le (by rw [HI.out.1]; omega)]; rfl)
      go_wp2
      go_ret
      exact ⟨by rw [← HN.out]; rfl, hB⟩

set_option maxHeartbeats 1000000 in
theorem containsint2 (k : Nat) (c0 : Nat) (c1 : Nat) (p : Int → Bool) (A : Option Addr) (len cap : Nat) (zs : List Int) (w : World) (hI : IsT 1 intCells w A len zs) (hl : len ≤ 1000000000000000)
    (hE : ∀ (args : Array Value) (W : World), (callFunc k args).run Tryd.prog W = .ok (.enter k args) W)
    (hk : ∀ (x : Int) (W : World), x ∈ zs → Below w.heap.size w W → Calls Tryd.prog k #[intV x, .pointer (some ⟨c0, 0, none⟩), .pointer (some ⟨c1, 0, none⟩)] W (Ret (.bool (p x)) W)) :
    Calls Tryd.prog 111 #[.slice A len cap, .func (.func k) #[] #[.pointer (some ⟨c0, 0, none⟩), .pointer (some ⟨c1, 0, none⟩)]] w (Ret (.bool (zs.any p)) w) := by
  have HI := Lib.hid (indexint2 k c0 c1 p A len cap zs w hI hl hE hk)
  have HA := Lib.hid (idxL_nonneg p zs)
  obtain ⟨b1, b2⟩ := idxL_bd p zs
  rw [hI.1] at b2
  clear hI hE hk
  generalize idxL p zs = G at *
  go_enter Tryd.func111, Tryd.ntmps111
  go_wp2_with (go_at_call 132; refine HI.out.mono ?_; rintro e w1 ⟨rfl, hb⟩)
  go_ret
  exact ⟨by rw [← HA.out]; rfl, hb⟩

end Go.Proofs.YtjikhpdchockcaaDoor
end
section
/- Package machine: contracts of allWithin and Total, over this seat's translation; what valid currents are. -/
namespace Go.Proofs.YtjikhpdchockcaaDoor
set_option linter.unusedVariables false
set_option linter.unusedSimpArgs false
open Go.RowKit Go.Shelf

/-- wpAnyH_take with the operation's place for its result written out. -/
theorem wpAnyH_takeD {P : Program} {md : Region.Mode} {ops : Array Oper} {Q : Exit → Act → World → Prop} {S : World → Prop} {i : Nat} {oi : Oper} {v : Value} {fuel : Nat} {listed : Array Bool} {a : Act} {w : World} (d : Option Tmp) (hi : ops[i]? = some oi) (hd : oi.dst = d)
    (hs : Region.noSelect ops = true) (hf : Region.free md ops listed i = true) (hr : (Region.ready md ops listed).contains i = true)
    (hQ : ∀ c a w, Q (.panic c) (a.put d v) w → Q (.panic c) a w) (hy : YieldsIf P ops S oi v a) (hS : S w)
    (h : wpAnyH P md ops Q S fuel (listed.setIfInBounds i true) (a.put d v) w) : wpAnyH P md ops Q S (fuel + 1) listed a w := by
  subst hd
  exact wpAnyH_take hi hs hf hr hQ hy hS h

set_option maxHeartbeats 1000000 in
theorem allWithin1_any (x a b : Int) (c0 c1 : Nat) (w : World) (h0 : w.cell? ⟨c0, 0, none⟩ = some (.int .i64 a)) (h1 : w.cell? ⟨c1, 0, none⟩ = some (.int .i64 b)) :
    Calls Tryd.prog 112 #[intV x, .pointer (some ⟨c0, 0, none⟩), .pointer (some ⟨c1, 0, none⟩)] w (Ret (.bool (!wthn x a b)) w) := by
  go_enter Tryd.func112, Tryd.ntmps112
  go_wp2_with (go_at_call 42; refine (mwithin_any _ _ _ _).mono ?_; rintro e w1 ⟨rfl, rfl⟩)
  go_ret
  exact ⟨rfl, by (repeat first | with_reducible exact Below.refl _ _ | with_reducible assumption | (with_reducible refine Below.setCell ?_ ?_ _; rotate_left; exact (by first | omega | (simp; done) | (simp; omega))) | (with_reducible refine Below.alloc ?_ ?_ _; rotate_left; exact (by first | omega | (simp; done) | (simp; omega))) | with_reducible refine Below.drew ?_ | with_reducible refine Below_drewN ?_ _)⟩

def allW (l : List Int) (a b : Int) : Bool := l.all fun x => wthn x a b
theorem not_any_allW (l : List Int) (a b : Int) : (!(l.any fun x => !wthn x a b)) = allW l a b := by
  unfold allW
  induction l with
  | nil => rfl
  | cons x r ih => simp only [List.any_cons, List.all_cons, Bool.not_or, Bool.not_not, ih]

set_option maxHeartbeats 1000000 in
theorem allWithin_any (A : Option Addr) (len cap : Nat) (zs : List Int) (a b : Int) (w : World) (hI : IsT 1 intCells w A len zs) (hl : len ≤ 1000000000000000) :
    Calls Tryd.prog 79 #[.slice A len cap, .int .i64 a, .int .i64 b] w (Ret (.bool (allW zs a b)) w) := by
  have HE := Lib.hid (not_any_allW zs a b)
  have HC := Lib.hid (fun W (hb : Below w.heap.size w W) (h0 : w.heap.size + 1 < W.heap.size) (h1 : W.cell? ⟨w.heap.size, 0, none⟩ = some (.int .i64 a)) (h2 : W.cell? ⟨w.heap.size + 1, 0, none⟩ = some (.int .i64 b)) =>
    containsint2 112 w.heap.size (w.heap.size + 1) (fun x => !wthn x a b) A len cap zs W (hI.below hb) hl (fun args W => enters_of Tryd.func112 (by kernel_rfl) rfl args W)
      (fun x W' _ hB => allWithin1_any x a b _ _ W' ((hB.cell (p := ⟨w.heap.size, 0, none⟩) (by show w.heap.size < _; omega)).trans h1) ((hB.cell (p := ⟨w.heap.size + 1, 0, none⟩) (by show w.heap.size + 1 < _; omega)).trans h2)))
  clear hI
  generalize allW zs a b = G at *
  generalize (zs.any fun x => !wthn x a b) = K at *
  go_enter Tryd.func79, Tryd.ntmps79
  go_wp2_with (go_at_call 111; refine (HC.out _ (by (repeat first | with_reducible exact Below.refl _ _ | with_reducible assumption | (with_reducible refine Below.setCell ?_ ?_ _; rotate_left; exact (by first | omega | (simp; done) | (simp; omega))) | (with_reducible refine Below.alloc ?_ ?_ _; rotate_left; exact (by first | omega | (simp; done) | (simp; omega))) | with_reducible refine Below.drew ?_ | with_reducible refine Below_drewN ?_ _)) (by first | omega | ((try simp only [World.size_alloc, World.size_setCell, size_drew, size_drewN]); omega) | (simp; done) | (simp; omega)) (by go_simp) (by go_simp)).mono ?_; rintro e w1 ⟨rfl, hb⟩)
  go_ret
  exact ⟨by rw [← HE.out]; rfl, Below.trans (by (repeat first | with_reducible exact Below.refl _ _ | with_reducible assumption | (with_reducible refine Below.setCell ?_ ?_ _; rotate_left; exact (by first | omega | (simp; done) | (simp; omega))) | (with_reducible refine Below.alloc ?_ ?_ _; rotate_left; exact (by first | omega | (simp; done) | (simp; omega))) | with_reducible refine Below.drew ?_ | with_reducible refine Below_drewN ?_ _)) (hb.mono (by first | omega | ((try simp only [World.size_alloc, World.size_setCell, size_drew, size_drewN]); omega) | (simp; done) | (simp; omega)))⟩

/-- The sum, as the program adds. -/
def tot (s : Int) : List Int → Int
  | [] => s
  | x :: r => tot (wrap64 (s + x)) r
theorem tot_drop {l : List Int} {k : Nat} {x : Int} (h : l[k]? = some x) (s : Int) : tot s (l.drop k) = tot (wrap64 (s + x)) (l.drop (k + 1)) := by
  obtain ⟨hk, rfl⟩ := List.getElem?_eq_some_iff.1 h
  rw [List.drop_eq_getElem_cons hk]; rfl

/-- Where the lists of currents lie. -/
structure CurR where
  (A B C : Option Addr) (la ca lb cb lc cc : Nat)
structure CurD where
  (coils shells plasma : List Int)
abbrev CurR.v (R : CurR) : Value := .agg #[.slice R.A R.la R.ca, .slice R.B R.lb R.cb, .slice R.C R.lc R.cc]
structure IsC (w : World) (R : CurR) (C : CurD) : Prop where
  coils : IsT 1 intCells w R.A R.la C.coils
  shells : IsT 1 intCells w R.B R.lb C.shells
  plasma : IsT 1 intCells w R.C R.lc C.plasma
  la : R.la ≤ R.ca
  lb : R.lb ≤ R.cb
  lc : R.lc ≤ R.cc
  ca : R.ca ≤ 9223372036854775807
  cb : R.cb ≤ 9223372036854775807
  cc : R.cc ≤ 9223372036854775807
  ka : R.la ≤ 1000000000000000
  kb : R.lb ≤ 1000000000000000
  kc : R.lc ≤ 1000000000000000
theorem IsC.below {w w1 : World} {R : CurR} {C : CurD} (h : IsC w R C) (hb : Below w.heap.size w w1) : IsC w1 R C :=
  ⟨h.coils.below hb, h.shells.below hb, h.plasma.below hb, h.la, h.lb, h.lc, h.ca, h.cb, h.cc, h.ka, h.kb, h.kc⟩

set_option maxHeartbeats 1000000 in
theorem total_any (A B C : Option Addr) (la ca lb cb len cap : Nat) (zs : List Int) (w : World) (hI : IsT 1 intCells w C len zs) (hl : len ≤ 1000000000000000) :
    Calls Tryd.prog 81 #[.agg #[.slice A la ca, .slice B lb cb, .slice C len cap]] w (Ret (.int .i64 (tot 0 zs)) w) := by
  have HI := Lib.hid hI
  obtain ⟨G, hG0⟩ : ∃ G, tot 0 zs = G := ⟨_, rfl⟩
  have HG := Lib.hid hG0
  rw [hG0]
  clear hG0 hI
  go_enter Tryd.func81, Tryd.ntmps81
  go_wp2_with fail
  go_loopw [3, 5, 9] (fun s _ i wr => ∃ (j : Nat) (t : Int), j ≤ len ∧ i = .int .i64 j ∧ s = .int .i64 t ∧ Hid (tot t (zs.drop j) = G) ∧ Below w.heap.size w wr) (fun _ _ i _ => len - (intOf i).toNat)
  case atStart => exact ⟨0, 0, Nat.zero_le _, rfl, rfl, Lib.hid HG.out, by (repeat first | with_reducible exact Below.refl _ _ | with_reducible assumption | (with_reducible refine Below.setCell ?_ ?_ _; rotate_left; exact (by first | omega | (simp; done) | (simp; omega))) | (with_reducible refine Below.alloc ?_ ?_ _; rotate_left; exact (by first | omega | (simp; done) | (simp; omega))) | with_reducible refine Below.drew ?_ | with_reducible refine Below_drewN ?_ _)⟩
  case round =>
    obtain ⟨j, t, hj, rfl, rfl, hG, hB⟩ := hrel
    by_cases hlt : j < len
    · obtain ⟨hzl, hcl⟩ := HI.out.below hB
      obtain ⟨b, o, rfl, hb0, hcl⟩ := hcl (by omega)
      obtain ⟨x, hx⟩ : ∃ x, zs[j]? = some x := ⟨_, List.getElem?_eq_getElem (by omega)⟩
      have HN := Lib.hid ((tot_drop hx t).symm.trans hG.out)
      have x0 : wr.cell? ⟨b, o + j, none⟩ = some (.int .i64 x) := by have h := hcl j x hx 0 _ rfl; simpa using h
      clear hcl hx hzl
      go_wp2_with fail
      go_roundw
      case rel => exact ⟨j + 1, _, by omega, by go_num, rfl, HN, hB⟩
      case measure => simp [intOf]; omega
    · have HN : Hid (t = G) := Lib.hid (by rw [← hG.out, List.drop_of_length_le (by rw [HI.out.1]; omega)]; rfl)
      go_wp2
      go_ret
      exact ⟨by rw [← HN.out]; rfl, hB⟩

/-- Currents are valid for a machine. -/
def validC (M : MachD) (C : CurD) : Bool :=
  decide (checkC M = 0) && (decide (C.coils.length = M.coils.length) && (allW C.coils (-1000000) 1000000 && (decide (C.shells.length = M.shells.length) && (allW C.shells (-1000000) 1000000 &&
    (decide ((C.plasma.length : Int) = M.grid.nr * M.grid.nz) && (allW C.plasma 0 1000000 && decide (tot 0 C.plasma ≤ 1000000)))))))

end Go.Proofs.YtjikhpdchockcaaDoor
end
section
/- Package machine: the contract of Influence, over this seat's translation. -/
namespace Go.Proofs.YtjikhpdchockcaaDoor
set_option linter.unusedVariables false
set_option linter.unusedSimpArgs false
open Go.RowKit

/-- The influence of two places. -/
def infl (a b c d : Int) : Int := if nearB a b 1000 = true ∧ nearB c d 1000 = true then 1000000 / (4 + (a - c) * (a - c) + (b - d) * (b - d)) else 0

theorem sq_bd {x : Int} (h0 : -2000 ≤ x) (h1 : x ≤ 2000) : 0 ≤ x * x ∧ x * x ≤ 4000000 := by
  rcases Int.le_total 0 x with h | h
  · exact ⟨Int.mul_nonneg h h, Int.mul_le_mul h1 h1 h (by omega)⟩
  · rw [← Int.neg_mul_neg]
    exact ⟨Int.mul_nonneg (by omega) (by omega), Int.mul_le_mul (a := -x) (b := -x) (c := 2000) (d := 2000) (by omega) (by omega) (by omega) (by omega)⟩
theorem nearB_bd {r z f : Int} (h : nearB r z f = true) : (-f ≤ r ∧ r ≤ f) ∧ -f ≤ z ∧ z ≤ f := by simpa [nearB, wthn] using h
theorem infl_bd (a b c d : Int) : 0 ≤ infl a b c d ∧ infl a b c d ≤ 250000 := by
  unfold infl
  split
  · rename_i h
    have h1 := nearB_bd h.1
    have h2 := nearB_bd h.2
    have s1 := sq_bd (x := a - c) (by omega) (by omega)
    have s2 := sq_bd (x := b - d) (by omega) (by omega)
    generalize (a - c) * (a - c) = p at *
    generalize (b - d) * (b - d) = q at *
    refine ⟨Int.ediv_nonneg (by omega) (by omega), ?_⟩
    have : 1000000 / (4 + p + q) ≤ 1000000 / 4 := by
      rw [Int.le_ediv_iff_mul_le (by omega)]
      have h4 : 1000000 / (4 + p + q) * (4 + p + q) ≤ 1000000 := Int.ediv_mul_le _ (by omega)
      have h5 : 0 ≤ 1000000 / (4 + p + q) := Int.ediv_nonneg (by omega) (by omega)
      have h6 : 1000000 / (4 + p + q) * 4 ≤ 1000000 / (4 + p + q) * (4 + p + q) := Int.mul_le_mul_of_nonneg_left (by omega) h5
      omega
    omega
  · omega

set_option maxRecDepth 100000 in
set_option maxHeartbeats 2000000 in
theorem influence_any (a b c d : Int) (w : World) :
    Calls Tryd.prog 85 #[.agg #[.int .i64 a, .int .i64 b], .agg #[.int .i64 c, .int .i64 d]] w (Ret (.int .i64 (infl a b c d)) w) := by
  cases n1 : nearB a b 1000
  · have HE : Hid (infl a b c d = 0) := Lib.hid (by unfold infl; rw [if_neg (by simp [n1])])
    go_enter Tryd.func85, Tryd.ntmps85
    go_wp2_with (go_at_call 114; refine (near_any _ _ _ _ (by omega) (by omega)).mono ?_; rintro e w1 ⟨rfl, rfl⟩)
    go_ret
    exact ⟨by rw [HE.out]; rfl, by (repeat first | with_reducible exact Below.refl _ _ | with_reducible assumption | (with_reducible refine Below.setCell ?_ ?_ _; rotate_left; exact (by first | omega | (simp; done) | (simp; omega))) | (with_reducible refine Below.alloc ?_ ?_ _; rotate_left; exact (by first | omega | (simp; done) | (simp; omega))) | with_reducible refine Below.drew ?_ | with_reducible refine Below_drewN ?_ _)⟩
  cases n2 : nearB c d 1000
  · have HE : Hid (infl a b c d = 0) := Lib.hid (by unfold infl; rw [if_neg (by simp [n2])])
    go_enter Tryd.func85, Tryd.ntmps85
    go_wp2_with (go_at_call 114; refine (near_any _ _ _ _ (by omega) (by omega)).mono ?_; rintro e w1 ⟨rfl, rfl⟩)
    go_ret
    exact ⟨by rw [HE.out]; rfl, by (repeat first | with_reducible exact Below.refl _ _ | with_reducible assumption | (with_reducible refine Below.setCell ?_ ?_ _; rotate_left; exact (by first | omega | (simp; done) | (simp; omega))) | (with_reducible refine Below.alloc ?_ ?_ _; rotate_left; exact (by first | omega | (simp; done) | (simp; omega))) | with_reducible refine Below.drew ?_ | with_reducible refine Below_drewN ?_ _)⟩
  have HE : Hid (infl a b c d = 1000000 / (4 + (a - c) * (a - c) + (b - d) * (b - d))) := Lib.hid (by unfold infl; rw [if_pos ⟨n1, n2⟩])
  obtain ⟨⟨a0, a1⟩, b0, b1⟩ := nearB_bd n1
  obtain ⟨⟨c0, c1⟩, d0, d1⟩ := nearB_bd n2
  have s1 := sq_bd (x := a - c) (by omega) (by omega)
  have s2 := sq_bd (x := b - d) (by omega) (by omega)
  have e1 : IntKind.i64.wrap (a - c) = a - c := IntWalk.i64_in _ (by omega)
  have e2 : IntKind.i64.wrap (b - d) = b - d := IntWalk.i64_in _ (by omega)
  go_enter Tryd.func85, Tryd.ntmps85
  go_wp2_with (go_at_call 114; refine (near_any _ _ _ _ (by omega) (by omega)).mono ?_; rintro e w1 ⟨rfl, rfl⟩)
  go_quiet (fail)
  obtain ⟨g0, g1⟩ := infl_bd a b c d
  generalize infl a b c d = G at *
  generalize hx : a - c = x at *
  generalize hy : b - d = y at *
  clear n1 n2
  generalize hp : x * x = p at *
  generalize hq : y * y = q at *
  have k0 : ¬(4 + p + q = 0) := by omega
  have k1 : ((4 + p + q) == 0) = false := by rw [beq_eq_false_iff_ne]; omega
  have k2 : (1000000 : Int).tdiv (4 + p + q) = G := by rw [HE.out]; exact Int.tdiv_eq_ediv_of_nonneg (by omega)
  have k3 : (1000000 : Int) / (4 + p + q) = G := HE.out.symm
  clear HE
  go_wp2_with fail
  go_ret
  exact ⟨rfl, by (repeat first | with_reducible exact Below.refl _ _ | with_reducible assumption | (with_reducible refine Below.setCell ?_ ?_ _; rotate_left; exact (by first | omega | (simp; done) | (simp; omega))) | (with_reducible refine Below.alloc ?_ ?_ _; rotate_left; exact (by first | omega | (simp; done) | (simp; omega))) | with_reducible refine Below.drew ?_ | with_reducible refine Below_drewN ?_ _)⟩

end Go.Proofs.YtjikhpdchockcaaDoor
end
section
/- Package machine: the iterator sources of a machine that has neither coils nor shells, and fluxAt over it, over this seat's translation. -/
namespace Go.Proofs.YtjikhpdchockcaaDoor
set_option linter.unusedVariables false
set_option linter.unusedSimpArgs false
open Go.RowKit Go.Shelf
attribute [local go_sem] Oper.semAt_some

theorem grown_of_below {a b : World} (h : Below a.heap.size a b) : a.grownBy b none := ⟨h.os, h.tape, h.output, h.size, fun k hk _ => h.block k hk⟩

/-- What a round keeps: what lay below n₀, and the two boxes of the iterator. -/
def KpF (n₀ tm tc : Nat) (W W' : World) : Prop := Below n₀ W W' ∧ ∀ b o, b = tm ∨ b = tc → W'.cell? ⟨b, o, none⟩ = W.cell? ⟨b, o, none⟩
theorem KpF.t {n₀ tm tc : Nat} {A B C : World} (h : KpF n₀ tm tc A B) (k : KpF n₀ tm tc B C) : KpF n₀ tm tc A C := ⟨h.1.trans k.1, fun b o hb => (k.2 b o hb).trans (h.2 b o hb)⟩
theorem KpF.refl (n₀ tm tc : Nat) (A : World) : KpF n₀ tm tc A A := ⟨Below.refl _ _, fun _ _ _ => rfl⟩
theorem KpF.of_below {n₀ tm tc : Nat} {A B : World} (h0 : n₀ ≤ A.heap.size) (h1 : tm < A.heap.size) (h2 : tc < A.heap.size) (h : Below A.heap.size A B) : KpF n₀ tm tc A B :=
  ⟨h.mono h0, fun b o hb => h.cell (p := ⟨b, o, none⟩) (by show b < _; omega)⟩
theorem KpF.b {n₀ tm tc : Nat} {w : World} (hn : n₀ ≤ w.heap.size) (h1 : tm < w.heap.size) (h2 : tc < w.heap.size) (W : World) (l : Nat) (o o' : Obj) (hl : w.heap.size ≤ l) (h : W.heap[l]? = some o) (a : o.isCells = false) (b : o.isWalk = false) : KpF n₀ tm tc W (W.putObj l o') :=
  ⟨belowK_b hn W l o o' hl h a b, fun k i hk => World.cell?_of_block (w := W) (a := ⟨k, i, none⟩) (World.putObj_heap_other (by intro e; dsimp only at e; omega))⟩
theorem KpF.cell {n₀ tm tc : Nat} {W W' : World} (h : KpF n₀ tm tc W W') {b o : Nat} {v : Value} (hb : b = tm ∨ b = tc) (hv : W.cell? ⟨b, o, none⟩ = some v) : W'.cell? ⟨b, o, none⟩ = some v := (h.2 b o hb).trans hv

/-- A place with its current. -/
abbrev Src := (Int × Int) × Int
abbrev srcEnc (x : Src) : Array Value := #[.agg #[.int .i64 x.1.1, .int .i64 x.1.2], .int .i64 x.2]
/-- The first k cells with their currents. -/
def cellSrc (g : GridD) (zs : List Int) (k : Nat) : List Src := (List.range k).map fun (j : Nat) => ((cellR g (j : Int), cellZ g (j : Int)), zs[j]?.getD 0)
theorem cellSrc_succ (g : GridD) (zs : List Int) (k : Nat) : cellSrc g zs (k + 1) = cellSrc g zs k ++ [((cellR g (k : Int), cellZ g (k : Int)), zs[k]?.getD 0)] := by simp [cellSrc, List.range_succ]
theorem cellSrc_length (g : GridD) (zs : List Int) (k : Nat) : (cellSrc g zs k).length = k := by simp [cellSrc]

/-- What the program adds up. -/
def fluxW (p : Int × Int) : Int → List Src → Int
  | s, [] => s
  | s, x :: r => fluxW p (wrap64 (s + wrap64 (infl p.1 p.2 x.1.1 x.1.2 * x.2))) r
theorem fluxW_snoc (p : Int × Int) (s : Int) (pre : List Src) (x : Src) : fluxW p s (pre ++ [x]) = wrap64 (fluxW p s pre + wrap64 (infl p.1 p.2 x.1.1 x.1.2 * x.2)) := by
  induction pre generalizing s with
  | nil => rfl
  | cons y r ih => exact ih _

set_option maxRecDepth 100000 in
set_option maxHeartbeats 4000000 in
theorem sources1_bare (n : Nat) (hn : 3 ≤ n) (l tm tc n₀ len cap ca cb : Nat) (A B C : Option Addr) (g : GridD) (hg : g.Fine) (zs : List Int) (hl : len ≤ 1000) (J Jx : List Src → World → Prop)
    (hJ : ∀ pre W W', J pre W → Below W.heap.size W W' → J pre W')
    (hY : ∀ pre x W, J pre W → pre.length < len → YieldAt Fence.wide (n - 1) Tryd.prog l (srcEnc x) W fun e W' =>
      (e = .returned (.bool true) ∧ J (pre ++ [x]) W' ∧ KpF n₀ tm tc W W') ∨ (e = .returned (.bool false) ∧ Jx (pre ++ [x]) W'))
    (W : World) (hz : zs.length = len) (hC : 0 < len → ∃ b o : Nat, C = some ⟨b, o, none⟩ ∧ b < n₀ ∧ b < W.heap.size ∧ ∀ j x, zs[j]? = some x → W.cell? ⟨b, o + j, none⟩ = some (.int .i64 x)) (htm : tm < W.heap.size) (htc : tc < W.heap.size) (hn₀ : n₀ ≤ W.heap.size)
    (m1 : W.cell? ⟨tm, 1, none⟩ = some (.slice A 0 ca)) (m2 : W.cell? ⟨tm, 2, none⟩ = some (.slice B 0 cb)) (m4 : W.cell? ⟨tm, 4, none⟩ = some (.int .i64 g.r)) (m5 : W.cell? ⟨tm, 5, none⟩ = some (.int .i64 g.z)) (m6 : W.cell? ⟨tm, 6, none⟩ = some (.int .i64 g.nr)) (m7 : W.cell? ⟨tm, 7, none⟩ = some (.int .i64 g.nz)) (m8 : W.cell? ⟨tm, 8, none⟩ = some (.int .i64 g.step))
    (k2 : W.cell? ⟨tc, 2, none⟩ = some (.slice C len cap)) (h0 : J [] W) :
    CallsIn Fence.wide n Tryd.prog 113 #[.func (.yield l) #[] #[], .pointer (some ⟨tm, 0, none⟩), .pointer (some ⟨tc, 0, none⟩)] W fun e W' => (∃ v, e = .returned v) ∧
      ((∃ ys, ys = cellSrc g zs len ∧ J ys W') ∨ (∃ pre, (∃ k, k ≤ len ∧ pre = cellSrc g zs k) ∧ Jx pre W')) := by
  have HP := Lib.hid (fun (i : Nat) (hi : i < len) W => cellPlace_any g (i : Int) W hg (by omega) (by omega))
  have HJ := Lib.hid hJ
  have HC := Lib.hid hC
  have HS := Lib.hid (fun k => cellSrc_succ g zs k)
  have HL := Lib.hid (fun k => cellSrc_length g zs k)
  clear hJ hC hg
  have h86 : Fence.wide.fn 83 := trivial
  refine callsIn_of_wp Tryd.func113 rfl trivial ?_ rfl
  simp only [Tryd.ntmps113, List.size_toArray, List.length_cons, List.length_nil, Nat.reduceAdd, Nat.reduceSub, Array.replicate_succ, Array.replicate_zero, List.push_toArray, List.append_toArray, List.nil_append, List.cons_append]
  gi_wp2
  gi_loopw [13] (fun i wr => i = .int .i64 0 ∧ wr = W) (fun _ _ => 0)
  case atStart => exact ⟨rfl, rfl⟩
  case round =>
    obtain ⟨rfl, rfl⟩ := hrel
    gi_wp2
    gi_loopw [38] (fun i wx => i = .int .i64 0 ∧ wx = wr) (fun _ _ => 0)
    case atStart => exact ⟨rfl, rfl⟩
    case round =>
      obtain ⟨rfl, rfl⟩ := hrel
      obtain ⟨W0, rfl⟩ : ∃ W0 : World, W0 = wr := ⟨_, rfl⟩
      gi_wp2
      gi_loopw [60] (fun i wx => ∃ k : Nat, k ≤ len ∧ i = .int .i64 k ∧ J (cellSrc g zs k) wx ∧ KpF n₀ tm tc W0 wx ∧ W0.heap.size ≤ wx.heap.size) (fun i _ => len - (intOf i).toNat)
      case atStart => exact ⟨0, Nat.zero_le _, rfl, h0, KpF.refl _ _ _ _, Nat.le_refl _⟩
      case round =>
        obtain ⟨k, hk, rfl, hJs, hnx, hsz⟩ := hrel
        by_cases hlt : k < len
        · obtain ⟨b, o, rfl, hb0, hb1, hcl⟩ := HC.out (by omega)
          obtain ⟨x, hx⟩ : ∃ x, zs[k]? = some x := ⟨_, List.getElem?_eq_getElem (by omega)⟩
          have x0 := (hnx.1.cell (p := ⟨b, o + k, none⟩) hb0).trans (hcl k x hx)
          have y4 := hnx.cell (.inl rfl) m4
          have y5 := hnx.cell (.inl rfl) m5
          have y6 := hnx.cell (.inl rfl) m6
          have y7 := hnx.cell (.inl rfl) m7
          have y8 := hnx.cell (.inl rfl) m8
          have HX : Hid (cellSrc g zs (k + 1) = cellSrc g zs k ++ [((cellR g (k : Int), cellZ g (k : Int)), x)]) := Lib.hid (by rw [HS.out, hx]; rfl)
          have HPk := Lib.hid (HP.out k hlt)
          have HYk := Lib.hid (fun W1 (hJ1 : J (cellSrc g zs k) W1) => hY _ ((cellR g (k : Int), cellZ g (k : Int)), x) W1 hJ1 (by rw [HL.out]; exact hlt))
          clear hcl hx hY
          generalize cellR g (k : Int) = R at *
          generalize cellZ g (k : Int) = Z at *
          gi_wp2_with (refine ⟨fun _ => (by omega), ?_⟩; gi_at_call 83; refine (callsIn_wide.2 (HPk.out _)).mono ?_; rintro e w1 ⟨rfl, hb⟩; have hJ1 := HJ.out _ _ _ hJs hb; have hn1 := KpF.of_below (n₀ := n₀) (tm := tm) (tc := tc) (by omega) (by omega) (by omega) hb; have hs1 := hb.size; obtain ⟨fn, tmps, assign, body, hy, hR⟩ := HYk.out w1 hJ1; simp only [srcEnc] at hy)
          refine ⟨fun _ => (by omega), hR.mono ?_⟩
          clear hR hy
          rintro e W3 (⟨rfl, hJ3, hk3⟩ | ⟨rfl, hJx3⟩)
          · gi_wp2
            go_roundw
            case rel => exact ⟨k + 1, by omega, by go_num, by rw [HX.out]; exact hJ3, hnx.t (hn1.t hk3), by have := hk3.1.size; omega⟩
            case measure => simp [intOf]; omega
          · gi_wp2
            refine bodyPost_ret (results_none rfl _ _ _) rfl ?_
            exact ⟨⟨_, rfl⟩, .inr ⟨_, ⟨k + 1, by omega, HX.out.symm⟩, hJx3⟩⟩
        · obtain rfl : k = len := by omega
          gi_wp2
          go_end0
          exact ⟨⟨_, rfl⟩, .inl ⟨_, rfl, hJs⟩⟩

set_option maxHeartbeats 1000000 in
theorem sources_in (n : Nat) (mc cc : Array Value) (w : World) :
    CallsIn Fence.wide n Tryd.prog 84 #[.agg mc, .agg cc] w fun e w' => e = .returned (.func (.func 113) #[] #[.pointer (some ⟨w.heap.size, 0, none⟩), .pointer (some ⟨w.heap.size + 1, 0, none⟩)]) ∧ w' = (w.alloc (.cells mc 29)).alloc (.cells cc 35) := by
  refine callsIn_of_wp Tryd.func84 rfl trivial ?_ rfl
  simp only [Tryd.ntmps84, List.size_toArray, List.length_cons, List.length_nil, Nat.reduceAdd, Nat.reduceSub, Array.replicate_succ, Array.replicate_zero, List.push_toArray, List.append_toArray, List.nil_append, List.cons_append]
  gi_wp2
  go_ret
  exact ⟨rfl, rfl⟩

end Go.Proofs.YtjikhpdchockcaaDoor
end
