import Derived.Test.YtapldonpflgnfaaGreatDoorLAC
import Derived.Test.YtapldonpflgnfaaGreatDoorLAN
import Derived.Test.YtapldonpflgnfaaGreatDoorLAQ
import Derived.Test.YtapldonpflgnfaaGreatDoorLAS
import Derived.Test.YtapldonpflgnfaaGreatDoorLAV
import Derived.Handy
import Derived.Shelf.Strconv.Itoa0
import Derived.Ground.Names2Prog
import Derived.Shelf.Slices.Clone
import Derived.Ground.SlgnProg
import Derived.Shelf.SlicesE.Clone
import Derived.Test.YtapldonpflgnfaaGreatDoorProg
import Derived.Laws.OwnMore
import Derived.Deep.OwnRows
import Derived.Deep.RegionHeld3
import Derived.Deep.AppendLies
section
namespace Go.Proofs.YtapldonpflgnfaaGreatDoor
set_option linter.unusedVariables false
set_option linter.unusedSimpArgs false
open Go.RowKit
theorem four_get {a b c d x : Int} {j : Nat} (h : ([a, b, c, d] : List Int)[j]? = some x) : (j = 0 ∧ x = a) ∨ (j = 1 ∧ x = b) ∨ (j = 2 ∧ x = c) ∨ (j = 3 ∧ x = d) := by
 match j, h with
 | 0, h => exact .inl ⟨rfl, by simpa using h.symm⟩
 | 1, h => exact .inr (.inl ⟨rfl, by simpa using h.symm⟩)
 | 2, h => exact .inr (.inr (.inl ⟨rfl, by simpa using h.symm⟩))
 | 3, h => exact .inr (.inr (.inr ⟨rfl, by simpa using h.symm⟩))
theorem infl_no {a b c d x : Int} {j : Nat} (h : ([a, b, c, d] : List Int)[j]? = some x) (hx : wthn x (-1000) 1000 = false) : infl a b c d = 0 := by
 unfold infl
 rw [if_neg]
 rintro ⟨h1, h2⟩
 simp only [nearB, Bool.and_eq_true] at h1 h2
 rcases four_get h with ⟨-, rfl⟩ | ⟨-, rfl⟩ | ⟨-, rfl⟩ | ⟨-, rfl⟩ <;> simp_all
theorem infl_yes {a b c d : Int} (h : ∀ (j : Nat) (x : Int), ([a, b, c, d] : List Int)[j]? = some x → wthn x (-1000) 1000 = true) : infl a b c d = 1000000 / (4 + (a - c) * (a - c) + (b - d) * (b - d)) ∧ ((-1000 ≤ a ∧ a ≤ 1000) ∧ -1000 ≤ b ∧ b ≤ 1000) ∧ (-1000 ≤ c ∧ c ≤ 1000) ∧ -1000 ≤ d ∧ d ≤ 1000 := by
 have h0 := h 0 a rfl
 have h1 := h 1 b rfl
 have h2 := h 2 c rfl
 have h3 := h 3 d rfl
 have g : ∀ x : Int, wthn x (-1000) 1000 = true → -1000 ≤ x ∧ x ≤ 1000 := fun x hx => by simpa [wthn] using hx
 refine ⟨?_, ⟨g _ h0, g _ h1⟩, g _ h2, g _ h3⟩
 unfold infl
 rw [if_pos (by simp [nearB, h0, h1, h2, h3])]
set_option maxRecDepth 100000 in
set_option maxHeartbeats 4000000 in
theorem rinfluence_any (a b c d : Int) (w : World) :
  Calls Tryz.prog 176 #[.agg #[.int .i64 a, .int .i64 b], .agg #[.int .i64 c, .int .i64 d]] w (Ret (.int .i64 (infl a b c d)) w) := by
 have HN := Lib.hid (fun (j : Nat) (x : Int) h hx => infl_no (a := a) (b := b) (c := c) (d := d) (j := j) (x := x) h hx)
 have HY := Lib.hid (fun h => infl_yes (a := a) (b := b) (c := c) (d := d) h)
 have HB := infl_bd a b c d
 generalize infl a b c d = G at *
 go_enter Tryz.func176, Tryz.ntmps176
 go_upto_region 3 with (fail)
 have HC : Hid (∀ (j : Nat) (x : Int), ([a, b, c, d] : List Int)[j]? = some x → (((w.alloc (.cells #[.int .i64 a, .int .i64 b] 79)).alloc (.cells #[.int .i64 c, .int .i64 d] 79)).alloc (.cells #[.int .i64 a, .int .i64 b, .int .i64 c, .int .i64 d] 3)).cell? ⟨w.heap.size + 1 + 1, j, none⟩ = some (.int .i64 x)) := Lib.hid (fun j x h => by
  rcases four_get h with ⟨rfl, rfl⟩ | ⟨rfl, rfl⟩ | ⟨rfl, rfl⟩ | ⟨rfl, rfl⟩ <;> go_simp)
 have p0 : (((w.alloc (.cells #[.int .i64 a, .int .i64 b] 79)).alloc (.cells #[.int .i64 c, .int .i64 d] 79)).alloc (.cells #[.int .i64 a, .int .i64 b, .int .i64 c, .int .i64 d] 3)).cell? ⟨w.heap.size, 0, none⟩ = some (.int .i64 a) := by go_simp
 have p1 : (((w.alloc (.cells #[.int .i64 a, .int .i64 b] 79)).alloc (.cells #[.int .i64 c, .int .i64 d] 79)).alloc (.cells #[.int .i64 a, .int .i64 b, .int .i64 c, .int .i64 d] 3)).cell? ⟨w.heap.size, 1, none⟩ = some (.int .i64 b) := by go_simp
 have p2 : (((w.alloc (.cells #[.int .i64 a, .int .i64 b] 79)).alloc (.cells #[.int .i64 c, .int .i64 d] 79)).alloc (.cells #[.int .i64 a, .int .i64 b, .int .i64 c, .int .i64 d] 3)).cell? ⟨w.heap.size + 1, 0, none⟩ = some (.int .i64 c) := by go_simp
 have p3 : (((w.alloc (.cells #[.int .i64 a, .int .i64 b] 79)).alloc (.cells #[.int .i64 c, .int .i64 d] 79)).alloc (.cells #[.int .i64 a, .int .i64 b, .int .i64 c, .int .i64 d] 3)).cell? ⟨w.heap.size + 1, 1, none⟩ = some (.int .i64 d) := by go_simp
 have hB : Below w.heap.size w (((w.alloc (.cells #[.int .i64 a, .int .i64 b] 79)).alloc (.cells #[.int .i64 c, .int .i64 d] 79)).alloc (.cells #[.int .i64 a, .int .i64 b, .int .i64 c, .int .i64 d] 3)) := by (repeat first | with_reducible exact Below.refl _ _ | (with_reducible refine Below.alloc ?_ ?_ _; rotate_left; exact (by first | omega | (simp; done) | (simp; omega))))
 obtain ⟨W, hW⟩ : ∃ W, ((w.alloc (.cells #[.int .i64 a, .int .i64 b] 79)).alloc (.cells #[.int .i64 c, .int .i64 d] 79)).alloc (.cells #[.int .i64 a, .int .i64 b, .int .i64 c, .int .i64 d] 3) = W := ⟨_, rfl⟩
 rw [hW] at HC p0 p1 p2 p3 hB ⊢
 clear hW
 go_loopw [6] (fun i wr => ∃ j : Nat, j ≤ 4 ∧ i = .int .i64 j ∧ wr = W ∧ Hid (∀ (k : Nat) (x : Int), k < j → ([a, b, c, d] : List Int)[k]? = some x → wthn x (-1000) 1000 = true)) (fun i _ => 4 - (intOf i).toNat)
 case atStart => exact ⟨0, by omega, rfl, rfl, Lib.hid (fun k x hk => absurd hk (Nat.not_lt_zero k))⟩
 case round =>
  obtain ⟨j, hj, rfl, rfl, HA⟩ := hrel
  by_cases hlt : j < 4
  ·obtain ⟨x, hx⟩ : ∃ x, ([a, b, c, d] : List Int)[j]? = some x := ⟨_, List.getElem?_eq_getElem (by simpa using hlt)⟩
   have x0 := HC.out j x hx
   have HX := Lib.hid hx
   clear hx
   have jc : (0 : Int) ≤ j := by omega
   have j4 : (j : Int) < 4 := by omega
   have jn : ((j : Int)).toNat = j := by omega
   have HW := Lib.hid (fun V => rwithin2_any x (-1000) 1000 V)
   cases hw : wthn x (-1000) 1000
   ·rw [hw] at HW
    obtain rfl : G = 0 := HN.out j x HX.out hw
    clear HN HY HA hw
    go_wp2_with (go_at_call 94; refine (HW.out _).mono ?_; rintro e w' ⟨rfl, rfl⟩)
    go_ret
    exact ⟨rfl, by (repeat with_reducible assumption)⟩
   ·rw [hw] at HW
    have HA' : Hid (∀ (k : Nat) (x : Int), k < j + 1 → ([a, b, c, d] : List Int)[k]? = some x → wthn x (-1000) 1000 = true) := Lib.hid (fun k y hk hy => by
     by_cases h : k < j
     ·exact HA.out k y h hy
     ·obtain rfl : k = j := by omega
      obtain rfl : x = y := Option.some.inj (HX.out.symm.trans hy)
      exact hw)
    clear HA hw HX
    go_wp2_with (go_at_call 94; refine (HW.out _).mono ?_; rintro e w' ⟨rfl, rfl⟩)
    go_roundw
    case rel => exact ⟨j + 1, by omega, by go_num, by first | rfl | trivial, HA'⟩
    case measure => simp [intOf]; omega
  ·have HA2 := HY.out (fun k x hx => HA.out k x (by have := (List.getElem?_eq_some_iff.1 hx).1; simp at this; omega) hx)
   have j4 : ¬ (j : Int) < 4 := by omega
   have j5 : decide ((j : Int) < 4) = false := decide_eq_false j4
   obtain ⟨hG, ⟨⟨a0, a1⟩, b0, b1⟩, ⟨c0, c1⟩, d0, d1⟩ := HA2
   have HE := Lib.hid hG
   clear HA HN HY HC hG
   have s1 := sq_bd (x := a - c) (by omega) (by omega)
   have s2 := sq_bd (x := b - d) (by omega) (by omega)
   have e1 : IntKind.i64.wrap (a - c) = a - c := IntWalk.i64_in _ (by omega)
   have e2 : IntKind.i64.wrap (b - d) = b - d := IntWalk.i64_in _ (by omega)
   obtain ⟨g0, g1⟩ := HB
   obtain ⟨x, hx⟩ : ∃ x, a - c = x := ⟨_, rfl⟩
   obtain ⟨y, hy⟩ : ∃ y, b - d = y := ⟨_, rfl⟩
   rw [hx] at s1 e1 HE
   rw [hy] at s2 e2 HE
   obtain ⟨p, hp⟩ : ∃ p, x * x = p := ⟨_, rfl⟩
   obtain ⟨q, hq⟩ : ∃ q, y * y = q := ⟨_, rfl⟩
   rw [hp] at s1 HE
   rw [hq] at s2 HE
   have k0 : ¬(4 + p + q = 0) := by omega
   have k1 : ((4 + p + q) == 0) = false := by rw [beq_eq_false_iff_ne]; omega
   have k2 : (1000000 : Int).tdiv (4 + p + q) = G := by rw [HE.out]; exact Int.tdiv_eq_ediv_of_nonneg (by omega)
   have k3 : (1000000 : Int) / (4 + p + q) = G := HE.out.symm
   clear HE hlt
   go_wp2_with fail
   go_ret
   exact ⟨rfl, by (repeat with_reducible assumption)⟩
end Go.Proofs.YtapldonpflgnfaaGreatDoor
end
section
namespace Go.Proofs
open Go.Shelf
def Tryz.laysNm215_ren : Go.Shelf.Ren := ⟨fun | 15 => 109 | n => n, fun | 22 => 30 | 3 => 3 | 4 => 4 | n => n, fun | n => n⟩
theorem Tryz.laysNm215 : Go.Proofs.Lays2.n15 Tryz.prog Tryz.laysNm215_ren := {
 mixed := by kernel_rfl
 f15 := Tryz.func109.trans (congrArg some (by kernel_rfl))
 t3 := Tryz.underlying3
 a3 := Tryz.isAgg3
 z3 := Tryz.sizeOf3
 v3 := Tryz.zeroValue3
 t4 := Tryz.underlying4
 a4 := Tryz.isAgg4
 z4 := Tryz.sizeOf4
 v4 := Tryz.zeroValue4
 t22 := Tryz.underlying30
 a22 := Tryz.isAgg30
 z22 := Tryz.sizeOf30
 v22 := Tryz.zeroValue30
 i3 := by kernel_rfl }
open Go.RowKit Go.Lib in
theorem Tryz.slices_Clone_int (b off n c : Nat) (zs : List Int) (w : World) (hz : n ≤ zs.length) (hbig : n * 8 ≤ 140737488355328) (hc : ∀ j, j < zs.length → w.cell? ⟨b, off + j, none⟩ = some (.int .i64 (zs.getD j 0))) :
  Calls Tryz.prog 109 #[.slice (some ⟨b, off, none⟩) n c] w fun e w' => ∃ v', e = .returned v' ∧ w'.ownsRow w.heap.size 3 1 v' n ((zs.take n).map (Value.int .i64)) ∧ v' ≠ .slice none 0 0 ∧ Below w.heap.size w w' := Any.slices_Clone_int Tryz.laysNm215 b off n c zs w hz hbig hc
open Go.RowKit Go.Lib in
theorem Tryz.slices_Clone_int_nil (n c : Nat) (w : World) :
  Calls Tryz.prog 109 #[.slice none n c] w fun e w' => e = .returned (.slice none 0 0) ∧ w' = w := Any.slices_Clone_int_nil Tryz.laysNm215 n c w
open Go.RowKit Go.Lib in
theorem Tryz.slices_Clone_int_zero (a : Addr) (c : Nat) (w : World) :
  Calls Tryz.prog 109 #[.slice (some a) 0 c] w fun e w' => ∃ v', e = .returned v' ∧ w'.ownsRow w.heap.size 3 1 v' 0 [] ∧ v' ≠ .slice none 0 0 ∧ Below w.heap.size w w' := Any.slices_Clone_int_zero Tryz.laysNm215 a c w
end Go.Proofs
end
section
namespace Go.Proofs.YtapldonpflgnfaaGreatDoor
set_option linter.unusedVariables false
set_option linter.unusedSimpArgs false
open Go.RowKit Go.Shelf
structure NewI (B : Nat) (w' : World) (A : Option Addr) (len cap : Nat) (zs : List Int) : Prop where
 isT : IsT 1 intCells w' A len zs
 le : len ≤ cap
 cap : cap ≤ maxLen
 new : ∀ a, A = some a → B ≤ a.block
 lt : ∀ a, A = some a → a.block < w'.heap.size
theorem NewI.below {B : Nat} {w1 w2 : World} {A : Option Addr} {len cap : Nat} {zs : List Int} (h : NewI B w1 A len cap zs) (hb : Below w1.heap.size w1 w2) : NewI B w2 A len cap zs :=
 ⟨h.isT.below hb, h.le, h.cap, h.new, fun a ha => Nat.lt_of_lt_of_le (h.lt a ha) hb.size⟩
theorem NewI.drew {B : Nat} {W : World} {A : Option Addr} {len cap : Nat} {zs : List Int} (h : NewI B W A len cap zs) : NewI B W.drew A len cap zs :=
 h.below ((Below.refl _ _).drew)
theorem NewI.alloc {B : Nat} {W : World} {A : Option Addr} {len cap : Nat} {zs : List Int} (h : NewI B W A len cap zs) (o : Obj) : NewI B (W.alloc o) A len cap zs :=
 h.below ((Below.refl _ _).alloc (Nat.le_refl _) o)
theorem NewI.setCell {B : Nat} {W : World} {A : Option Addr} {len cap : Nat} {zs : List Int} (h : NewI B W A len cap zs) {p : Addr} (hp : ∀ a, A = some a → a.block ≠ p.block) (v : Value) : NewI B (W.setCell p v) A len cap zs :=
 ⟨⟨h.isT.1, fun h0 => by
   obtain ⟨b, o, e, h1, h2⟩ := h.isT.2 h0
   refine ⟨b, o, e, by rw [World.size_setCell]; exact h1, fun j x hx i u hu => ?_⟩
   rw [World.cell?_setCell_other _ _ _ _ (fun e2 => hp _ e (by exact (congrArg Addr.block e2).symm))]
   exact h2 j x hx i u hu⟩, h.le, h.cap, h.new, fun a ha => by rw [World.size_setCell]; exact h.lt a ha⟩
theorem NewI.mono {B B' : Nat} {W : World} {A : Option Addr} {len cap : Nat} {zs : List Int} (h : NewI B W A len cap zs) (hB : B' ≤ B) : NewI B' W A len cap zs :=
 ⟨h.isT, h.le, h.cap, fun a ha => Nat.le_trans hB (h.new a ha), h.lt⟩
structure ZeroL (b n : Nat) (W : World) : Prop where
 lt : b < W.heap.size
 cell : ∀ j, j < n → W.cell? ⟨b, j, none⟩ = some (.int .i64 0)
 mark : ∀ j, j < n → W.frozen? ⟨b, j, none⟩ = false
theorem ZeroL.new (W : World) (n : Nat) (t : TypeId) (hn : n ≤ 1000000000000) : ZeroL W.heap.size n (W.alloc (.cells (madeCells #[.int .i64 0] n) t)) := by
 have hrow := World.ownsRow_lit (base := W.heap.size) (size := 1) (e := t) W (madeCells #[.int .i64 0] n) n (Nat.le_refl _) (by unfold maxLen; omega) (by rw [size_madeCells]; omega)
 refine ⟨by simp, fun j hj => ?_, fun j hj => hrow.frozenAt j⟩
 rw [hrow.cellAt j (by omega), toList_madeCells_one]
 simp [List.getElem?_replicate, hj]
theorem ZeroL.below {b n : Nat} {W W' : World} (h : ZeroL b n W) (hb : Below W.heap.size W W') : ZeroL b n W' :=
 ⟨Nat.lt_of_lt_of_le h.lt hb.size, fun j hj => (hb.cell (p := ⟨b, j, none⟩) h.lt).trans (h.cell j hj), fun j hj => (hb.frozen (p := ⟨b, j, none⟩) h.lt).trans (h.mark j hj)⟩
theorem ZeroL.drew {b n : Nat} {W : World} (h : ZeroL b n W) : ZeroL b n W.drew := h.below ((Below.refl _ _).drew)
theorem ZeroL.alloc {b n : Nat} {W : World} (h : ZeroL b n W) (o : Obj) : ZeroL b n (W.alloc o) := h.below ((Below.refl _ _).alloc (Nat.le_refl _) o)
theorem ZeroL.setCell {b n : Nat} {W : World} (h : ZeroL b n W) {p : Addr} (hp : b ≠ p.block) (v : Value) : ZeroL b n (W.setCell p v) :=
 ⟨by rw [World.size_setCell]; exact h.lt, fun j hj => by
   rw [World.cell?_setCell_other _ _ _ _ (fun e => hp (by exact (congrArg Addr.block e).symm))]; exact h.cell j hj, fun j hj => by rw [World.frozen?_setCell]; exact h.mark j hj⟩
theorem newI_of_row {B : Nat} {w' : World} {e : TypeId} {v : Value} {n : Nat} {zs : List Int} (hz : zs.length = n) (h : w'.ownsRow B e 1 v n (zs.map (Value.int .i64))) :
  ∃ (A : Option Addr) (cap : Nat), v = .slice A n cap ∧ NewI B w' A n cap zs := by
 have h2 := h.2
 rcases h2 with ⟨hv, hn⟩ | ⟨g, cap, cur, hv, hB, hg, hc, hm, hs, ht⟩
 ·subst hn
  exact ⟨none, 0, hv, ⟨⟨hz, fun h0 => absurd h0 (by omega)⟩, Nat.le_refl _, Nat.zero_le _, (fun a ha => by cases ha), (fun a ha => by cases ha)⟩⟩
 ·subst hv
  refine ⟨_, cap, rfl, ⟨⟨hz, fun h0 => ⟨g, 0, rfl, ?_, fun j x hx i v hv => ?_⟩⟩, hc, hm, fun a ha => ?_, fun a ha => ?_⟩⟩
  ·exact (Array.getElem?_eq_some_iff.1 hg).1
  ·have hj : j < n := by rw [← hz]; exact (List.getElem?_eq_some_iff.1 hx).1
   have hi : i = 0 := by
    have := (List.getElem?_eq_some_iff.1 hv).1
    simp [intCells] at this; omega
   subst hi
   have hc := h.cellAt j (by omega)
   rw [List.getElem?_map, hx] at hc
   have hv' : v = .int .i64 x := by simpa [intCells] using hv.symm
   subst hv'
   simpa using hc
  ·obtain rfl := Option.some.inj ha
   exact hB
  ·obtain rfl := Option.some.inj ha
   exact (Array.getElem?_eq_some_iff.1 hg).1
theorem clone_any (A : Option Addr) (len cap : Nat) (zs : List Int) (w : World) (hI : IsT 1 intCells w A len zs) (hl : len ≤ 1000000000000) :
  Calls Tryz.prog 109 #[.slice A len cap] w fun e w' => ∃ (A' : Option Addr) (cap' : Nat), e = .returned (.slice A' len cap') ∧ NewI w.heap.size w' A' len cap' zs ∧ Below w.heap.size w w' := by
 have hz := hI.1
 cases A with
 | none =>
  have h0 : len = 0 := by
   rcases Nat.eq_zero_or_pos len with h | h
   ·exact h
   ·obtain ⟨b, o, e, -, -⟩ := hI.2 h; cases e
  subst h0
  refine (Tryz.slices_Clone_int_nil 0 cap w).mono ?_
  rintro e w' ⟨rfl, rfl⟩
  exact ⟨none, 0, rfl, ⟨⟨hz, fun h0 => absurd h0 (by omega)⟩, Nat.le_refl _, Nat.zero_le _, (fun a ha => by cases ha), (fun a ha => by cases ha)⟩, Below.refl _ _⟩
 | some a =>
  rcases Nat.eq_zero_or_pos len with h | h
  ·subst h
   refine (Tryz.slices_Clone_int_zero a cap w).mono ?_
   rintro e w' ⟨v', rfl, hrow, -, hb⟩
   obtain rfl : zs = [] := List.eq_nil_of_length_eq_zero hz
   obtain ⟨A', cap', rfl, hn⟩ := newI_of_row (zs := []) rfl hrow
   exact ⟨A', cap', rfl, hn, hb⟩
  ·obtain ⟨b, o, e, hb0, hcl⟩ := hI.2 h
   obtain rfl := Option.some.inj e
   refine (Tryz.slices_Clone_int b o len cap zs w (by omega) (by omega) (fun j hj => ?_)).mono ?_
   ·have hx : zs[j]? = some zs[j] := List.getElem?_eq_getElem hj
    have := hcl j _ hx 0 _ rfl
    rw [List.getD_eq_getElem?_getD, hx]
    simpa using this
   ·rintro e w' ⟨v', rfl, hrow, -, hb⟩
    rw [List.take_of_length_le (by omega)] at hrow
    obtain ⟨A', cap', rfl, hn⟩ := newI_of_row hz hrow
    exact ⟨A', cap', rfl, hn, hb⟩
end Go.Proofs.YtapldonpflgnfaaGreatDoor
end
section
namespace Go.Proofs.YtapldonpflgnfaaGreatDoor
set_option linter.unusedVariables false
set_option linter.unusedSimpArgs false
open Go.RowKit Go.Shelf
theorem push_int {ops : Array Oper} {o : Oper} {a : Act} {K : Act → World → Prop} {Q : Exit → Act → World → Prop} {E : Prop} {w : World} (B : Nat) (W0 : World) (hgd : o.guard = none) (s x : Operand)
  (ho : o.op = .call { callee := .builtin .append, args := #[s, x], argTypes := #[30, 30] })
  (v : Value) (n : Nat) (xs : List Value) (hs : a.eval s = v) (hown : w.ownsRow B 3 1 v n xs) (g0 : Nat) (k : Int) (hx : a.eval x = .slice (some ⟨g0, 0, none⟩) 1 1)
  (hblk : w.heap[g0]? = some (.cells #[.int .i64 k] 3 (0, 0))) (hn : n ≤ 100000) (hB : B ≤ w.heap.size) (h0 : Below B W0 w)
  (hk : ∀ g cap w', w'.ownsRow B 3 1 (.slice (some ⟨g, 0, none⟩) (n + 1) cap) (n + 1) (xs ++ [.int .i64 k]) → Below B W0 w' → w.heap.size ≤ w'.heap.size → K (a.put o.dst (.slice (some ⟨g, 0, none⟩) (n + 1) cap)) w') :
  if Region.wanted o (yielded ops a.tmps) = true then Oper.wp Tryz.prog o a w K Q else E := by
 have hI0 : (Tryz.prog.info? 3).map (fun i => (i.zero, i.size, i.bytes)) = some (some (.int .i64 0), 1, 8) := by kernel_rfl
 obtain ⟨i0, hi, hz0, hz1, hz2⟩ := info_parts hI0
 refine step_append_lies w hgd s x 30 ho B 3 i0 _ 1 8 Tryz.underlying30 hi hz0 hz1 hz2 rfl (by decide) v n xs hs hown ⟨g0, 0, none⟩ 1 1 [.int .i64 k] hx rfl (World.news_of_block (cs := #[.int .i64 k]) hblk) (by simp [Value.oneCell']) (by decide) (by unfold maxLen; omega) (by omega) hB w.heap.size rfl (fun g cap w' h1 h2 h3 h4 => ?_)
 exact hk g cap w' h1 (below_grownB h0 hown h2 hB) h2.size
theorem own_below {B : Nat} {e : TypeId} {k : Nat} {v : Value} {n : Nat} {xs : List Value} {w w' : World} (h : w.ownsRow B e k v n xs) (hb : Below w.heap.size w w') : w'.ownsRow B e k v n xs := by
 refine ⟨h.1, ?_⟩
 rcases h.2 with h0 | ⟨g, cap, cur, h1, h2, h3, h4⟩
 ·exact Or.inl h0
 ·exact Or.inr ⟨g, cap, cur, h1, h2, (hb.block g (Array.getElem?_eq_some_iff.1 h3).1).trans h3, h4⟩
def fromL (M : MachD) (p : Int × Int) : List Int :=
 M.coils.map (fun c => c.turns * infl p.1 p.2 c.r c.z) ++ (M.shells.map (fun s => infl p.1 p.2 s.r s.z) ++ (List.range (M.grid.nr * M.grid.nz).toNat).map fun (j : Nat) => infl p.1 p.2 (cellR M.grid (j : Int)) (cellZ M.grid (j : Int)))
theorem from_coil {M : MachD} {p : Int × Int} {k : Nat} {c : CoilD} (h : M.coils[k]? = some c) : (fromL M p)[k]? = some (c.turns * infl p.1 p.2 c.r c.z) := by
 have hk := (List.getElem?_eq_some_iff.1 h).1
 unfold fromL
 rw [List.getElem?_append_left (by simpa using hk), List.getElem?_map, h]; rfl
theorem from_shell {M : MachD} {p : Int × Int} {k : Nat} {c : ShellD} (h : M.shells[k]? = some c) : (fromL M p)[M.coils.length + k]? = some (infl p.1 p.2 c.r c.z) := by
 have hk := (List.getElem?_eq_some_iff.1 h).1
 unfold fromL
 rw [List.getElem?_append_right (by simp), List.getElem?_append_left (by simp; omega)]
 simp [h]
theorem from_cell {M : MachD} {p : Int × Int} {k : Nat} (h : (k : Int) < M.grid.nr * M.grid.nz) : (fromL M p)[M.coils.length + (M.shells.length + k)]? = some (infl p.1 p.2 (cellR M.grid (k : Int)) (cellZ M.grid (k : Int))) := by
 unfold fromL
 rw [List.getElem?_append_right (by simp), List.getElem?_append_right (by simp)]
 have hk : k < (M.grid.nr * M.grid.nz).toNat := by omega
 simp [hk]
theorem from_length (M : MachD) (p : Int × Int) : (fromL M p).length = M.coils.length + (M.shells.length + (M.grid.nr * M.grid.nz).toNat) := by
 unfold fromL; simp
set_option maxRecDepth 100000 in
set_option maxHeartbeats 16000000 in
theorem rfrom_any (R : MachR) (M : MachD) (p0 p1 : Int) (w : World) (hM : IsM w R M) (hc : checkC M = 0) :
  Calls Tryz.prog 148 #[.agg (machCells R M), .agg #[.int .i64 p0, .int .i64 p1]] w fun e w' => ∃ (A' : Option Addr) (cap : Nat), e = .returned (.slice A' (fromL M (p0, p1)).length cap) ∧ NewI w.heap.size w' A' (fromL M (p0, p1)).length cap (fromL M (p0, p1)) ∧ Below w.heap.size w w' := by
 have hs := sound_of hc
 have hfc := cells_fine hs.grid
 have e1 := hM.coils.1
 have e2 := hM.shells.1
 have e3 := hs.coils.1
 have e4 := hs.shells.1
 have HL := from_length M (p0, p1)
 have HT1 := Lib.hid (fun k c h => take_snoc (from_coil (M := M) (p := (p0, p1)) (k := k) (c := c) h))
 have HT2 := Lib.hid (fun k c h => take_snoc (from_shell (M := M) (p := (p0, p1)) (k := k) (c := c) h))
 have HT3 := Lib.hid (fun k h => take_snoc (from_cell (M := M) (p := (p0, p1)) (k := k) h))
 have HTB := Lib.hid (fun k (c : CoilD) (h : M.coils[k]? = some c) => (hs.coils.2 c (List.mem_of_getElem? h)).1)
 have HG := Lib.hid hs.grid
 have HCO := Lib.hid hM.coils
 have HSH := Lib.hid hM.shells
 rw [e1, e2] at HL
 rw [e1] at HT2 HT3
 rw [e2] at HT3
 dsimp only at HT1 HT2 HT3
 generalize fromL M (p0, p1) = T at *
 have l1 : R.la ≤ 12 := by omega
 have l2 : R.lb ≤ 16 := by omega
 clear hM hc hs e1 e2 e3 e4
 obtain ⟨A, B, Cl, D, la, ca, lb, cb, lc, cl, ld, cd⟩ := R
 obtain ⟨name, coils, shells, limits, ⟨r, z, nr, nz, step⟩, sensors⟩ := M
 dsimp only at *
 show Calls Tryz.prog 148 #[.agg #[.string name, .slice A la ca, .slice B lb cb, .slice Cl lc cl, .int .i64 r, .int .i64 z, .int .i64 nr, .int .i64 nz, .int .i64 step, .slice D ld cd], .agg #[.int .i64 p0, .int .i64 p1]] w _
 go_enter Tryz.func148, Tryz.ntmps148
 go_upto_region 3 with (fail)
 have m0 : ((w.alloc (.cells #[.string name, .slice A la ca, .slice B lb cb, .slice Cl lc cl, .int .i64 r, .int .i64 z, .int .i64 nr, .int .i64 nz, .int .i64 step, .slice D ld cd] 29)).alloc (.cells #[.int .i64 p0, .int .i64 p1] 79)).cell? ⟨w.heap.size, 0, none⟩ = some (.string name) := by go_simp
 have m1 : ((w.alloc (.cells #[.string name, .slice A la ca, .slice B lb cb, .slice Cl lc cl, .int .i64 r, .int .i64 z, .int .i64 nr, .int .i64 nz, .int .i64 step, .slice D ld cd] 29)).alloc (.cells #[.int .i64 p0, .int .i64 p1] 79)).cell? ⟨w.heap.size, 1, none⟩ = some (.slice A la ca) := by go_simp
 have m2 : ((w.alloc (.cells #[.string name, .slice A la ca, .slice B lb cb, .slice Cl lc cl, .int .i64 r, .int .i64 z, .int .i64 nr, .int .i64 nz, .int .i64 step, .slice D ld cd] 29)).alloc (.cells #[.int .i64 p0, .int .i64 p1] 79)).cell? ⟨w.heap.size, 2, none⟩ = some (.slice B lb cb) := by go_simp
 have m3 : ((w.alloc (.cells #[.string name, .slice A la ca, .slice B lb cb, .slice Cl lc cl, .int .i64 r, .int .i64 z, .int .i64 nr, .int .i64 nz, .int .i64 step, .slice D ld cd] 29)).alloc (.cells #[.int .i64 p0, .int .i64 p1] 79)).cell? ⟨w.heap.size, 3, none⟩ = some (.slice Cl lc cl) := by go_simp
 have m4 : ((w.alloc (.cells #[.string name, .slice A la ca, .slice B lb cb, .slice Cl lc cl, .int .i64 r, .int .i64 z, .int .i64 nr, .int .i64 nz, .int .i64 step, .slice D ld cd] 29)).alloc (.cells #[.int .i64 p0, .int .i64 p1] 79)).cell? ⟨w.heap.size, 4, none⟩ = some (.int .i64 r) := by go_simp
 have m5 : ((w.alloc (.cells #[.string name, .slice A la ca, .slice B lb cb, .slice Cl lc cl, .int .i64 r, .int .i64 z, .int .i64 nr, .int .i64 nz, .int .i64 step, .slice D ld cd] 29)).alloc (.cells #[.int .i64 p0, .int .i64 p1] 79)).cell? ⟨w.heap.size, 5, none⟩ = some (.int .i64 z) := by go_simp
 have m6 : ((w.alloc (.cells #[.string name, .slice A la ca, .slice B lb cb, .slice Cl lc cl, .int .i64 r, .int .i64 z, .int .i64 nr, .int .i64 nz, .int .i64 step, .slice D ld cd] 29)).alloc (.cells #[.int .i64 p0, .int .i64 p1] 79)).cell? ⟨w.heap.size, 6, none⟩ = some (.int .i64 nr) := by go_simp
 have m7 : ((w.alloc (.cells #[.string name, .slice A la ca, .slice B lb cb, .slice Cl lc cl, .int .i64 r, .int .i64 z, .int .i64 nr, .int .i64 nz, .int .i64 step, .slice D ld cd] 29)).alloc (.cells #[.int .i64 p0, .int .i64 p1] 79)).cell? ⟨w.heap.size, 7, none⟩ = some (.int .i64 nz) := by go_simp
 have m8 : ((w.alloc (.cells #[.string name, .slice A la ca, .slice B lb cb, .slice Cl lc cl, .int .i64 r, .int .i64 z, .int .i64 nr, .int .i64 nz, .int .i64 step, .slice D ld cd] 29)).alloc (.cells #[.int .i64 p0, .int .i64 p1] 79)).cell? ⟨w.heap.size, 8, none⟩ = some (.int .i64 step) := by go_simp
 have m9 : ((w.alloc (.cells #[.string name, .slice A la ca, .slice B lb cb, .slice Cl lc cl, .int .i64 r, .int .i64 z, .int .i64 nr, .int .i64 nz, .int .i64 step, .slice D ld cd] 29)).alloc (.cells #[.int .i64 p0, .int .i64 p1] 79)).cell? ⟨w.heap.size, 9, none⟩ = some (.slice D ld cd) := by go_simp
 have q0 : ((w.alloc (.cells #[.string name, .slice A la ca, .slice B lb cb, .slice Cl lc cl, .int .i64 r, .int .i64 z, .int .i64 nr, .int .i64 nz, .int .i64 step, .slice D ld cd] 29)).alloc (.cells #[.int .i64 p0, .int .i64 p1] 79)).cell? ⟨w.heap.size + 1, 0, none⟩ = some (.int .i64 p0) := by go_simp
 have q1 : ((w.alloc (.cells #[.string name, .slice A la ca, .slice B lb cb, .slice Cl lc cl, .int .i64 r, .int .i64 z, .int .i64 nr, .int .i64 nz, .int .i64 step, .slice D ld cd] 29)).alloc (.cells #[.int .i64 p0, .int .i64 p1] 79)).cell? ⟨w.heap.size + 1, 1, none⟩ = some (.int .i64 p1) := by go_simp
 have hB0 : Below w.heap.size w ((w.alloc (.cells #[.string name, .slice A la ca, .slice B lb cb, .slice Cl lc cl, .int .i64 r, .int .i64 z, .int .i64 nr, .int .i64 nz, .int .i64 step, .slice D ld cd] 29)).alloc (.cells #[.int .i64 p0, .int .i64 p1] 79)) := by (repeat first | with_reducible exact Below.refl _ _ | (with_reducible refine Below.alloc ?_ ?_ _; rotate_left; exact (by first | omega | (simp; done))))
 have hz : w.heap.size + 1 < ((w.alloc (.cells #[.string name, .slice A la ca, .slice B lb cb, .slice Cl lc cl, .int .i64 r, .int .i64 z, .int .i64 nr, .int .i64 nz, .int .i64 step, .slice D ld cd] 29)).alloc (.cells #[.int .i64 p0, .int .i64 p1] 79)).heap.size := by simp
 obtain ⟨W0, hW0⟩ : ∃ W, (w.alloc (.cells #[.string name, .slice A la ca, .slice B lb cb, .slice Cl lc cl, .int .i64 r, .int .i64 z, .int .i64 nr, .int .i64 nz, .int .i64 step, .slice D ld cd] 29)).alloc (.cells #[.int .i64 p0, .int .i64 p1] 79) = W := ⟨_, rfl⟩
 rw [hW0] at m0 m1 m2 m3 m4 m5 m6 m7 m8 m9 q0 q1 hB0 hz ⊢
 clear hW0
 have FM := Lib.hid (BoxL.mk10 (W := W0) (by omega) m0 m1 m2 m3 m4 m5 m6 m7 m8 m9)
 have FP := Lib.hid (BoxL.mk2 (W := W0) hz q0 q1)
 clear m0 m1 m2 m3 m4 m5 m6 m7 m8 m9 q0 q1
 go_loopw [5, 6] (fun out i wr => ∃ (j : Nat) (A' : Option Addr) (cap : Nat), j ≤ la ∧ i = .int .i64 j ∧ out = .slice A' j cap ∧ Hid (wr.ownsRow W0.heap.size 3 1 (.slice A' j cap) j ((T.take j).map (Value.int .i64))) ∧ Below W0.heap.size W0 wr) (fun _ i _ => la - (intOf i).toNat)
 case atStart => exact ⟨0, none, 0, Nat.zero_le _, rfl, rfl, Lib.hid (World.ownsRow_nil _ _ _ _), Below.refl _ _⟩
 case round =>
  obtain ⟨j, A', cap, hj, rfl, rfl, hrow, hBx⟩ := hrel
  have szx := hBx.size
  have m0 := (FM.out.below hBx).at 0 (.string name) rfl
  have m1 := (FM.out.below hBx).at 1 (.slice A la ca) rfl
  have m2 := (FM.out.below hBx).at 2 (.slice B lb cb) rfl
  have m3 := (FM.out.below hBx).at 3 (.slice Cl lc cl) rfl
  have m4 := (FM.out.below hBx).at 4 (.int .i64 r) rfl
  have m5 := (FM.out.below hBx).at 5 (.int .i64 z) rfl
  have m6 := (FM.out.below hBx).at 6 (.int .i64 nr) rfl
  have m7 := (FM.out.below hBx).at 7 (.int .i64 nz) rfl
  have m8 := (FM.out.below hBx).at 8 (.int .i64 step) rfl
  have m9 := (FM.out.below hBx).at 9 (.slice D ld cd) rfl
  have q0 := (FP.out.below hBx).at 0 (.int .i64 p0) rfl
  have q1 := (FP.out.below hBx).at 1 (.int .i64 p1) rfl
  by_cases hlt : j < la
  ·obtain ⟨hzl, hcl⟩ := HCO.out
   obtain ⟨b, o, rfl, hb0, hcl⟩ := hcl (by omega)
   obtain ⟨c, hc⟩ : ∃ c, coils[j]? = some c := ⟨_, List.getElem?_eq_getElem (by omega)⟩
   have g1 : W0.cell? ⟨b, o + j * 8 + 1, none⟩ = some (.int .i64 c.r) := (hB0.cell (p := ⟨b, o + j * 8 + 1, none⟩) hb0).trans (by have h := hcl j c hc 1 _ rfl; simpa using h)
   have g2 : W0.cell? ⟨b, o + j * 8 + 2, none⟩ = some (.int .i64 c.z) := (hB0.cell (p := ⟨b, o + j * 8 + 2, none⟩) hb0).trans (by have h := hcl j c hc 2 _ rfl; simpa using h)
   have g3 : W0.cell? ⟨b, o + j * 8 + 3, none⟩ = some (.int .i64 c.turns) := (hB0.cell (p := ⟨b, o + j * 8 + 3, none⟩) hb0).trans (by have h := hcl j c hc 3 _ rfl; simpa using h)
   have hbw : b < W0.heap.size := by omega
   have HX := Lib.hid (HT1.out j c hc)
   have tb := HTB.out j c hc
   obtain ⟨nm, cr, cz, ct, c4, c5, c6, c7⟩ := c
   dsimp only at *
   have HI := Lib.hid (fun V => rinfluence_any p0 p1 cr cz V)
   have ib := infl_bd p0 p1 cr cz
   generalize infl p0 p1 cr cz = F at *
   have mb := mul_bd (a := ct) (b := F) (A := 100) (B := 250000) (by omega) tb.2 (by omega) ib.2
   have v0 : IntKind.i64.wrap (ct * F) = ct * F := IntWalk.i64_in _ (by omega)
   clear hcl hc hzl
   have HS : Hid (∀ w' : World, Below W0.heap.size W0 w' → (Below W0.heap.size W0 w' ∧ w'.cell? ⟨w.heap.size, 0, none⟩ = some (.string name) ∧ w'.cell? ⟨w.heap.size, 1, none⟩ = some (.slice (some ⟨b, o, none⟩) la ca) ∧ w'.cell? ⟨w.heap.size, 2, none⟩ = some (.slice B lb cb) ∧ w'.cell? ⟨w.heap.size, 3, none⟩ = some (.slice Cl lc cl) ∧ w'.cell? ⟨w.heap.size, 4, none⟩ = some (.int .i64 r) ∧ w'.cell? ⟨w.heap.size, 5, none⟩ = some (.int .i64 z) ∧ w'.cell? ⟨w.heap.size, 6, none⟩ = some (.int .i64 nr) ∧ w'.cell? ⟨w.heap.size, 7, none⟩ = some (.int .i64 nz) ∧ w'.cell? ⟨w.heap.size, 8, none⟩ = some (.int .i64 step) ∧ w'.cell? ⟨w.heap.size, 9, none⟩ = some (.slice D ld cd) ∧ w'.cell? ⟨w.heap.size + 1, 0, none⟩ = some (.int .i64 p0) ∧ w'.cell? ⟨w.heap.size + 1, 1, none⟩ = some (.int .i64 p1) ∧ w'.cell? ⟨b, o + j * 8 + 1, none⟩ = some (.int .i64 cr) ∧ w'.cell? ⟨b, o + j * 8 + 2, none⟩ = some (.int .i64 cz) ∧ w'.cell? ⟨b, o + j * 8 + 3, none⟩ = some (.int .i64 ct))) := Lib.hid (fun w' h => ⟨h, (FM.out.below h).at 0 (.string name) rfl, (FM.out.below h).at 1 (.slice (some ⟨b, o, none⟩) la ca) rfl, (FM.out.below h).at 2 (.slice B lb cb) rfl, (FM.out.below h).at 3 (.slice Cl lc cl) rfl, (FM.out.below h).at 4 (.int .i64 r) rfl, (FM.out.below h).at 5 (.int .i64 z) rfl, (FM.out.below h).at 6 (.int .i64 nr) rfl, (FM.out.below h).at 7 (.int .i64 nz) rfl, (FM.out.below h).at 8 (.int .i64 step) rfl, (FM.out.below h).at 9 (.slice D ld cd) rfl, (FP.out.below h).at 0 (.int .i64 p0) rfl, (FP.out.below h).at 1 (.int .i64 p1) rfl, (h.cell (p := ⟨b, o + j * 8 + 1, none⟩) hbw).trans g1, (h.cell (p := ⟨b, o + j * 8 + 2, none⟩) hbw).trans g2, (h.cell (p := ⟨b, o + j * 8 + 3, none⟩) hbw).trans g3⟩)
   go_wp2_with fail
   go_region_held3 (fun w' => Below W0.heap.size W0 w' ∧ w'.cell? ⟨w.heap.size, 0, none⟩ = some (.string name) ∧ w'.cell? ⟨w.heap.size, 1, none⟩ = some (.slice (some ⟨b, o, none⟩) la ca) ∧ w'.cell? ⟨w.heap.size, 2, none⟩ = some (.slice B lb cb) ∧ w'.cell? ⟨w.heap.size, 3, none⟩ = some (.slice Cl lc cl) ∧ w'.cell? ⟨w.heap.size, 4, none⟩ = some (.int .i64 r) ∧ w'.cell? ⟨w.heap.size, 5, none⟩ = some (.int .i64 z) ∧ w'.cell? ⟨w.heap.size, 6, none⟩ = some (.int .i64 nr) ∧ w'.cell? ⟨w.heap.size, 7, none⟩ = some (.int .i64 nz) ∧ w'.cell? ⟨w.heap.size, 8, none⟩ = some (.int .i64 step) ∧ w'.cell? ⟨w.heap.size, 9, none⟩ = some (.slice D ld cd) ∧ w'.cell? ⟨w.heap.size + 1, 0, none⟩ = some (.int .i64 p0) ∧ w'.cell? ⟨w.heap.size + 1, 1, none⟩ = some (.int .i64 p1) ∧ w'.cell? ⟨b, o + j * 8 + 1, none⟩ = some (.int .i64 cr) ∧ w'.cell? ⟨b, o + j * 8 + 2, none⟩ = some (.int .i64 cz) ∧ w'.cell? ⟨b, o + j * 8 + 3, none⟩ = some (.int .i64 ct)) (exact HS.out _ (by (repeat first | with_reducible assumption | (with_reducible refine Below.alloc ?_ ?_ _; rotate_left; exact (by omega)) | with_reducible refine Below.drew ?_))) (first | (go_at_call 176; refine (HI.out _).mono ?_; rintro e w9 ⟨rfl, hb⟩; have hBc : Below W0.heap.size W0 w9 := Below.trans (by (repeat with_reducible exact (‹Below _ _ _ ∧ _›).1)) (hb.mono (by (try simp only [World.size_alloc, size_drew]); omega)); have szc := hBc.size; have hrow9 := own_below (w := wr.drew) hrow.out hb) | (refine push_int W0.heap.size W0 rfl _ _ rfl (.slice A' j cap) j ((T.take j).map (Value.int .i64)) rfl (hrow9.alloc _) _ (ct * F) rfl (heap_alloc_new _ _) (by omega) (by (try simp only [World.size_alloc, size_drew]); omega) (by (repeat with_reducible exact (‹Below _ _ _ ∧ _›).1)) ?_; intro g cap' w1 hown1 hBa hsa))
   go_wp2_with fail
   go_roundw
   case rel => exact ⟨j + 1, _, cap', by omega, by go_num, by first | rfl | trivial, Lib.hid (by (rw [HX.out, List.map_append]; exact hown1)), by (repeat with_reducible assumption)⟩
   case measure => simp [intOf]; omega
  ·have je : j = la := by omega
   rw [je] at hrow
   obtain ⟨A0, hA0⟩ : ∃ X, A' = X := ⟨_, rfl⟩
   obtain ⟨cap0, hcap0⟩ : ∃ X, cap = X := ⟨_, rfl⟩
   rw [hA0, hcap0] at hrow
   have hrow0 := hrow
   clear hrow
   have hlt2 : ¬ ((j : Int) < (la : Int)) := by omega
   go_wp2_with fail
   go_loopw [5, 7] (fun out i wr => ∃ (j : Nat) (A' : Option Addr) (cap : Nat), j ≤ lb ∧ i = .int .i64 j ∧ out = .slice A' (la + j) cap ∧ Hid (wr.ownsRow W0.heap.size 3 1 (.slice A' (la + j) cap) (la + j) ((T.take (la + j)).map (Value.int .i64))) ∧ Below W0.heap.size W0 wr) (fun _ i _ => lb - (intOf i).toNat)
   case atStart => exact ⟨0, A0, cap0, Nat.zero_le _, rfl, by simp, Lib.hid (by simpa using hrow0.out), by (repeat with_reducible assumption)⟩
   case round =>
    obtain ⟨j, A', cap, hj, rfl, rfl, hrow, hBx⟩ := hrel
    have szx := hBx.size
    have m0 := (FM.out.below hBx).at 0 (.string name) rfl
    have m1 := (FM.out.below hBx).at 1 (.slice A la ca) rfl
    have m2 := (FM.out.below hBx).at 2 (.slice B lb cb) rfl
    have m3 := (FM.out.below hBx).at 3 (.slice Cl lc cl) rfl
    have m4 := (FM.out.below hBx).at 4 (.int .i64 r) rfl
    have m5 := (FM.out.below hBx).at 5 (.int .i64 z) rfl
    have m6 := (FM.out.below hBx).at 6 (.int .i64 nr) rfl
    have m7 := (FM.out.below hBx).at 7 (.int .i64 nz) rfl
    have m8 := (FM.out.below hBx).at 8 (.int .i64 step) rfl
    have m9 := (FM.out.below hBx).at 9 (.slice D ld cd) rfl
    have q0 := (FP.out.below hBx).at 0 (.int .i64 p0) rfl
    have q1 := (FP.out.below hBx).at 1 (.int .i64 p1) rfl
    by_cases hlt : j < lb
    ·obtain ⟨hzl, hcl⟩ := HSH.out
     obtain ⟨b, o, rfl, hb0, hcl⟩ := hcl (by omega)
     obtain ⟨c, hc⟩ : ∃ c, shells[j]? = some c := ⟨_, List.getElem?_eq_getElem (by omega)⟩
     have g1 : W0.cell? ⟨b, o + j * 4, none⟩ = some (.int .i64 c.r) := (hB0.cell (p := ⟨b, o + j * 4, none⟩) hb0).trans (by have h := hcl j c hc 0 _ rfl; simpa using h)
     have g2 : W0.cell? ⟨b, o + j * 4 + 1, none⟩ = some (.int .i64 c.z) := (hB0.cell (p := ⟨b, o + j * 4 + 1, none⟩) hb0).trans (by have h := hcl j c hc 1 _ rfl; simpa using h)
     have hbw : b < W0.heap.size := by omega
     have HX := Lib.hid (HT2.out j c hc)
     obtain ⟨cr, cz, c2, c3⟩ := c
     dsimp only at *
     have HI := Lib.hid (fun V => rinfluence_any p0 p1 cr cz V)
     have ib := infl_bd p0 p1 cr cz
     generalize infl p0 p1 cr cz = F at *
     clear hcl hc hzl
     have HS : Hid (∀ w' : World, Below W0.heap.size W0 w' → (Below W0.heap.size W0 w' ∧ w'.cell? ⟨w.heap.size, 0, none⟩ = some (.string name) ∧ w'.cell? ⟨w.heap.size, 1, none⟩ = some (.slice A la ca) ∧ w'.cell? ⟨w.heap.size, 2, none⟩ = some (.slice (some ⟨b, o, none⟩) lb cb) ∧ w'.cell? ⟨w.heap.size, 3, none⟩ = some (.slice Cl lc cl) ∧ w'.cell? ⟨w.heap.size, 4, none⟩ = some (.int .i64 r) ∧ w'.cell? ⟨w.heap.size, 5, none⟩ = some (.int .i64 z) ∧ w'.cell? ⟨w.heap.size, 6, none⟩ = some (.int .i64 nr) ∧ w'.cell? ⟨w.heap.size, 7, none⟩ = some (.int .i64 nz) ∧ w'.cell? ⟨w.heap.size, 8, none⟩ = some (.int .i64 step) ∧ w'.cell? ⟨w.heap.size, 9, none⟩ = some (.slice D ld cd) ∧ w'.cell? ⟨w.heap.size + 1, 0, none⟩ = some (.int .i64 p0) ∧ w'.cell? ⟨w.heap.size + 1, 1, none⟩ = some (.int .i64 p1) ∧ w'.cell? ⟨b, o + j * 4, none⟩ = some (.int .i64 cr) ∧ w'.cell? ⟨b, o + j * 4 + 1, none⟩ = some (.int .i64 cz))) := Lib.hid (fun w' h => ⟨h, (FM.out.below h).at 0 (.string name) rfl, (FM.out.below h).at 1 (.slice A la ca) rfl, (FM.out.below h).at 2 (.slice (some ⟨b, o, none⟩) lb cb) rfl, (FM.out.below h).at 3 (.slice Cl lc cl) rfl, (FM.out.below h).at 4 (.int .i64 r) rfl, (FM.out.below h).at 5 (.int .i64 z) rfl, (FM.out.below h).at 6 (.int .i64 nr) rfl, (FM.out.below h).at 7 (.int .i64 nz) rfl, (FM.out.below h).at 8 (.int .i64 step) rfl, (FM.out.below h).at 9 (.slice D ld cd) rfl, (FP.out.below h).at 0 (.int .i64 p0) rfl, (FP.out.below h).at 1 (.int .i64 p1) rfl, (h.cell (p := ⟨b, o + j * 4, none⟩) hbw).trans g1, (h.cell (p := ⟨b, o + j * 4 + 1, none⟩) hbw).trans g2⟩)
     go_wp2_with fail
     go_region_held3 (fun w' => Below W0.heap.size W0 w' ∧ w'.cell? ⟨w.heap.size, 0, none⟩ = some (.string name) ∧ w'.cell? ⟨w.heap.size, 1, none⟩ = some (.slice A la ca) ∧ w'.cell? ⟨w.heap.size, 2, none⟩ = some (.slice (some ⟨b, o, none⟩) lb cb) ∧ w'.cell? ⟨w.heap.size, 3, none⟩ = some (.slice Cl lc cl) ∧ w'.cell? ⟨w.heap.size, 4, none⟩ = some (.int .i64 r) ∧ w'.cell? ⟨w.heap.size, 5, none⟩ = some (.int .i64 z) ∧ w'.cell? ⟨w.heap.size, 6, none⟩ = some (.int .i64 nr) ∧ w'.cell? ⟨w.heap.size, 7, none⟩ = some (.int .i64 nz) ∧ w'.cell? ⟨w.heap.size, 8, none⟩ = some (.int .i64 step) ∧ w'.cell? ⟨w.heap.size, 9, none⟩ = some (.slice D ld cd) ∧ w'.cell? ⟨w.heap.size + 1, 0, none⟩ = some (.int .i64 p0) ∧ w'.cell? ⟨w.heap.size + 1, 1, none⟩ = some (.int .i64 p1) ∧ w'.cell? ⟨b, o + j * 4, none⟩ = some (.int .i64 cr) ∧ w'.cell? ⟨b, o + j * 4 + 1, none⟩ = some (.int .i64 cz)) (exact HS.out _ (by (repeat first | with_reducible assumption | (with_reducible refine Below.alloc ?_ ?_ _; rotate_left; exact (by omega)) | with_reducible refine Below.drew ?_))) (first | (go_at_call 176; refine (HI.out _).mono ?_; rintro e w9 ⟨rfl, hb⟩; have hBc : Below W0.heap.size W0 w9 := Below.trans (by (repeat with_reducible exact (‹Below _ _ _ ∧ _›).1)) (hb.mono (by (try simp only [World.size_alloc, size_drew]); omega)); have szc := hBc.size; have hrow9 := own_below (w := wr.drew) hrow.out hb) | (refine push_int W0.heap.size W0 rfl _ _ rfl (.slice A' (la + j) cap) (la + j) ((T.take (la + j)).map (Value.int .i64)) rfl (hrow9.alloc _) _ (F) rfl (heap_alloc_new _ _) (by omega) (by (try simp only [World.size_alloc, size_drew]); omega) (by (repeat with_reducible exact (‹Below _ _ _ ∧ _›).1)) ?_; intro g cap' w1 hown1 hBa hsa))
     go_wp2_with fail
     go_roundw
     case rel => exact ⟨j + 1, _, cap', by omega, by go_num, by first | rfl | trivial, Lib.hid (by (rw [show (la + (j + 1)) = (la + j) + 1 by omega, HX.out, List.map_append]; exact hown1)), by (repeat with_reducible assumption)⟩
     case measure => simp [intOf]; omega
    ·have je : j = lb := by omega
     rw [je] at hrow
     obtain ⟨A0, hA0⟩ : ∃ X, A' = X := ⟨_, rfl⟩
     obtain ⟨cap0, hcap0⟩ : ∃ X, cap = X := ⟨_, rfl⟩
     rw [hA0, hcap0] at hrow
     have hrow0 := hrow
     clear hrow
     have hlt2 : ¬ ((j : Int) < (lb : Int)) := by omega
     go_wp2_with fail
     go_loopw [5, 8] (fun out i wr => ∃ (j : Nat) (A' : Option Addr) (cap : Nat), j ≤ (nr * nz).toNat ∧ i = .int .i64 j ∧ out = .slice A' (la + (lb + j)) cap ∧ Hid (wr.ownsRow W0.heap.size 3 1 (.slice A' (la + (lb + j)) cap) (la + (lb + j)) ((T.take (la + (lb + j))).map (Value.int .i64))) ∧ Below W0.heap.size W0 wr) (fun _ i _ => (nr * nz).toNat - (intOf i).toNat)
     case atStart => exact ⟨0, A0, cap0, Nat.zero_le _, rfl, by simp, Lib.hid (by simpa using hrow0.out), by (repeat with_reducible assumption)⟩
     case round =>
      obtain ⟨j, A', cap, hj, rfl, rfl, hrow, hBx⟩ := hrel
      have szx := hBx.size
      have m0 := (FM.out.below hBx).at 0 (.string name) rfl
      have m1 := (FM.out.below hBx).at 1 (.slice A la ca) rfl
      have m2 := (FM.out.below hBx).at 2 (.slice B lb cb) rfl
      have m3 := (FM.out.below hBx).at 3 (.slice Cl lc cl) rfl
      have m4 := (FM.out.below hBx).at 4 (.int .i64 r) rfl
      have m5 := (FM.out.below hBx).at 5 (.int .i64 z) rfl
      have m6 := (FM.out.below hBx).at 6 (.int .i64 nr) rfl
      have m7 := (FM.out.below hBx).at 7 (.int .i64 nz) rfl
      have m8 := (FM.out.below hBx).at 8 (.int .i64 step) rfl
      have m9 := (FM.out.below hBx).at 9 (.slice D ld cd) rfl
      have q0 := (FP.out.below hBx).at 0 (.int .i64 p0) rfl
      have q1 := (FP.out.below hBx).at 1 (.int .i64 p1) rfl
      by_cases hlt : (j : Int) < nr * nz
      ·have HX := Lib.hid (HT3.out j hlt)
       have HA := Lib.hid (fun V => rat_any name A B Cl D la ca lb cb lc cl ld cd r z nr nz step j V HG.out (by omega) (by omega))
       have HI := Lib.hid (fun V => rinfluence_any p0 p1 (cellR ⟨r, z, nr, nz, step⟩ (j : Int)) (cellZ ⟨r, z, nr, nz, step⟩ (j : Int)) V)
       generalize infl p0 p1 (cellR ⟨r, z, nr, nz, step⟩ (j : Int)) (cellZ ⟨r, z, nr, nz, step⟩ (j : Int)) = F at *
       generalize cellR ⟨r, z, nr, nz, step⟩ (j : Int) = CR at *
       generalize cellZ ⟨r, z, nr, nz, step⟩ (j : Int) = CZ at *
       have u0 : IntKind.i64.wrap (nr * nz) = nr * nz := IntWalk.i64_in _ (by omega)
       have HS : Hid (∀ w' : World, Below W0.heap.size W0 w' → (Below W0.heap.size W0 w' ∧ w'.cell? ⟨w.heap.size, 0, none⟩ = some (.string name) ∧ w'.cell? ⟨w.heap.size, 1, none⟩ = some (.slice A la ca) ∧ w'.cell? ⟨w.heap.size, 2, none⟩ = some (.slice B lb cb) ∧ w'.cell? ⟨w.heap.size, 3, none⟩ = some (.slice Cl lc cl) ∧ w'.cell? ⟨w.heap.size, 4, none⟩ = some (.int .i64 r) ∧ w'.cell? ⟨w.heap.size, 5, none⟩ = some (.int .i64 z) ∧ w'.cell? ⟨w.heap.size, 6, none⟩ = some (.int .i64 nr) ∧ w'.cell? ⟨w.heap.size, 7, none⟩ = some (.int .i64 nz) ∧ w'.cell? ⟨w.heap.size, 8, none⟩ = some (.int .i64 step) ∧ w'.cell? ⟨w.heap.size, 9, none⟩ = some (.slice D ld cd) ∧ w'.cell? ⟨w.heap.size + 1, 0, none⟩ = some (.int .i64 p0) ∧ w'.cell? ⟨w.heap.size + 1, 1, none⟩ = some (.int .i64 p1))) := Lib.hid (fun w' h => ⟨h, (FM.out.below h).at 0 (.string name) rfl, (FM.out.below h).at 1 (.slice A la ca) rfl, (FM.out.below h).at 2 (.slice B lb cb) rfl, (FM.out.below h).at 3 (.slice Cl lc cl) rfl, (FM.out.below h).at 4 (.int .i64 r) rfl, (FM.out.below h).at 5 (.int .i64 z) rfl, (FM.out.below h).at 6 (.int .i64 nr) rfl, (FM.out.below h).at 7 (.int .i64 nz) rfl, (FM.out.below h).at 8 (.int .i64 step) rfl, (FM.out.below h).at 9 (.slice D ld cd) rfl, (FP.out.below h).at 0 (.int .i64 p0) rfl, (FP.out.below h).at 1 (.int .i64 p1) rfl⟩)
       go_wp2_with fail
       go_region_held3 (fun w' => Below W0.heap.size W0 w' ∧ w'.cell? ⟨w.heap.size, 0, none⟩ = some (.string name) ∧ w'.cell? ⟨w.heap.size, 1, none⟩ = some (.slice A la ca) ∧ w'.cell? ⟨w.heap.size, 2, none⟩ = some (.slice B lb cb) ∧ w'.cell? ⟨w.heap.size, 3, none⟩ = some (.slice Cl lc cl) ∧ w'.cell? ⟨w.heap.size, 4, none⟩ = some (.int .i64 r) ∧ w'.cell? ⟨w.heap.size, 5, none⟩ = some (.int .i64 z) ∧ w'.cell? ⟨w.heap.size, 6, none⟩ = some (.int .i64 nr) ∧ w'.cell? ⟨w.heap.size, 7, none⟩ = some (.int .i64 nz) ∧ w'.cell? ⟨w.heap.size, 8, none⟩ = some (.int .i64 step) ∧ w'.cell? ⟨w.heap.size, 9, none⟩ = some (.slice D ld cd) ∧ w'.cell? ⟨w.heap.size + 1, 0, none⟩ = some (.int .i64 p0) ∧ w'.cell? ⟨w.heap.size + 1, 1, none⟩ = some (.int .i64 p1)) (exact HS.out _ (by (repeat first | with_reducible assumption | (with_reducible refine Below.alloc ?_ ?_ _; rotate_left; exact (by omega)) | with_reducible refine Below.drew ?_))) (first | (go_at_call 134; refine (HA.out _).mono ?_; rintro e w8 ⟨rfl, hb8⟩; have hBc8 : Below W0.heap.size W0 w8 := Below.trans (by (repeat with_reducible exact (‹Below _ _ _ ∧ _›).1)) (hb8.mono (by (try simp only [World.size_alloc, size_drew]); omega)); have szc8 := hBc8.size; have hrow8 := own_below (w := wr.drew) hrow.out hb8) | (go_at_call 176; refine (HI.out _).mono ?_; rintro e w9 ⟨rfl, hb⟩; have hBc : Below W0.heap.size W0 w9 := Below.trans (by (repeat with_reducible assumption)) (hb.mono (by (try simp only [World.size_alloc, size_drew]); omega)); have szc := hBc.size; have hrow9 := own_below hrow8 hb) | (refine push_int W0.heap.size W0 rfl _ _ rfl (.slice A' (la + (lb + j)) cap) (la + (lb + j)) ((T.take (la + (lb + j))).map (Value.int .i64)) rfl (hrow9.alloc _) _ (F) rfl (heap_alloc_new _ _) (by omega) (by (try simp only [World.size_alloc, size_drew]); omega) (by (repeat first | with_reducible assumption | with_reducible exact (‹Below _ _ _ ∧ _›).1)) ?_; intro g cap' w1 hown1 hBa hsa))
       go_wp2_with fail
       go_roundw
       case rel => exact ⟨j + 1, _, cap', by omega, by go_num, by first | rfl | trivial, Lib.hid (by (rw [show (la + (lb + (j + 1))) = (la + (lb + j)) + 1 by omega, HX.out, List.map_append]; exact hown1)), by (repeat with_reducible assumption)⟩
       case measure => simp [intOf]; omega
      ·have je : j = (nr * nz).toNat := by omega
       have u0 : IntKind.i64.wrap (nr * nz) = nr * nz := IntWalk.i64_in _ (by omega)
       have hT : T.take (la + (lb + j)) = T := List.take_of_length_le (by omega)
       rw [hT] at hrow
       obtain ⟨A2, cap2, hv, hN⟩ := newI_of_row (by omega) hrow.out
       obtain ⟨h1, h2⟩ : A' = A2 ∧ cap = cap2 := by simpa using hv
       have hl : T.length = la + (lb + j) := by omega
       have hN2 : Hid (NewI w.heap.size wr A' T.length cap T) := Lib.hid (by rw [hl, h1, h2]; exact hN.mono (by omega))
       clear hN hv h1 h2
       go_wp2_with fail
       go_ret
       refine ⟨A', cap, ?_, by first | exact hN2.out | (have h := hN2.out; rw [HL] at h; exact h), hB0.trans ((by (repeat with_reducible assumption) : Below W0.heap.size W0 _).mono (by omega))⟩
       first | rfl | exact congrArg (fun n => Ending.returned (.slice A' n cap)) (show la + (lb + j) = T.length by omega) | exact congrArg (fun n => Ending.returned (.slice A' n cap)) (show la + (lb + (nr * nz).toNat) = T.length by omega)
end Go.Proofs.YtapldonpflgnfaaGreatDoor
end
section
namespace Go.Proofs.YtapldonpflgnfaaGreatDoor
set_option linter.unusedVariables false
set_option linter.unusedSimpArgs false
open Go.RowKit Go.Shelf
theorem run_push {P : Program} {w : World} (base : Nat) (t ty e : TypeId) (i : TypeInfo) (bytes : Nat) (ht : P.underlying t = some (.slice e)) (hi : P.info? e = some i) (hz : i.zero = some (.int .i64 0)) (hsize : i.size = 1) (hby : i.bytes = bytes)
  (v : Value) (n : Nat) (xs : List Value) (hown : w.ownsRow base e 1 v n xs) (A : Option Addr) (len cap : Nat) (zs : List Int) (hI : IsT 1 intCells w A len zs) (h63 : n + len ≤ maxLen) (hbytes : (n + len) * bytes ≤ 140737488355328) (hbase : base ≤ w.heap.size) :
  ∃ v' w', (Builtin.append_ #[t, t] ty #[v, .slice A len cap]).run P w = .ok v' w' ∧ w'.ownsRow base e 1 v' (n + len) (xs ++ zs.map (Value.int .i64)) ∧ w.grownBy w' v.ownBlock := by
 rcases Nat.eq_zero_or_pos len with h | h
 ·subst h
  obtain rfl : zs = [] := List.eq_nil_of_length_eq_zero hI.1
  refine ⟨v, w, ?_, by simpa using hown, World.grownBy.refl _ _⟩
  rcases hown.2 with ⟨rfl, rfl⟩ | ⟨g, c, cur, rfl, _, _, hnc, _⟩
  ·cases A <;> simp [Builtin.append_, run_underlying ht, sizeOf, typeInfo, hi, Builtin.lenOf, Builtin.firstCells, loadCells, loadCellsFrom, Result.andThen]
  ·cases A <;> simp [Builtin.append_, run_underlying ht, sizeOf, typeInfo, hi, Builtin.lenOf, Builtin.firstCells, hnc, storeCells, loadCells, loadCellsFrom, Result.andThen]
 ·obtain ⟨b, o, rfl, hb, hcl⟩ := hI.2 h
  have hA : ∀ j u, (zs.map (Value.int .i64))[j]? = some u → w.cell? ((⟨b, o, none⟩ : Addr).add j) = some u := fun j u hu => by
   rw [List.getElem?_map] at hu
   obtain ⟨x, hx, rfl⟩ := Option.map_eq_some_iff.1 hu
   have := hcl j x hx 0 _ rfl
   cases j with
   | zero => simpa [Addr.add] using this
   | succ k => simpa [Addr.add] using this
  have hC : ∀ u ∈ zs.map (Value.int .i64), u.oneCell' = true := fun u hu => by
   obtain ⟨x, -, rfl⟩ := List.mem_map.1 hu
   rfl
  obtain ⟨v', w', h1, h2, h3, -⟩ := run_append_own (P := P) w base t ty e i (.int .i64 0) 1 bytes ht hi hz hsize hby rfl (by decide) v n xs hown ⟨b, o, none⟩ len cap (zs.map (Value.int .i64)) (by simp [hI.1]) hA hC h63 hbytes hbase
  exact ⟨v', w', h1, h2, h3⟩
theorem list_push {ops : Array Oper} {rest : List Oper} {o : Oper} {a : Act} {Q : Exit → Act → World → Prop} {w : World} (B : Nat) (W0 : World) (hgd : o.guard = none) (s x : Operand)
  (ho : o.op = .call { callee := .builtin .append, args := #[s, x], argTypes := #[30, 30] })
  (v : Value) (n : Nat) (xs : List Int) (hs : a.eval s = v) (hown : w.ownsRow B 3 1 v n (xs.map (Value.int .i64))) (A : Option Addr) (len cap : Nat) (zs : List Int) (hx : a.eval x = .slice A len cap)
  (hI : IsT 1 intCells w A len zs) (m : Nat) (hm : n + len = m) (hn : n ≤ 100000) (hl : len ≤ 100000) (hB : B ≤ w.heap.size) (h0 : Below B W0 w)
  (hk : ∀ A' cap' w', w'.ownsRow B 3 1 (.slice A' m cap') m ((xs ++ zs).map (Value.int .i64)) → Below B W0 w' → w.heap.size ≤ w'.heap.size → wpList Tryz.prog ops Q rest (a.put o.dst (.slice A' m cap')) w') :
  wpList Tryz.prog ops Q (o :: rest) a w :=
 wpList_plain hgd fun K hK => by
  subst hm
  have hI0 : (Tryz.prog.info? 3).map (fun i => (i.zero, i.size, i.bytes)) = some (some (.int .i64 0), 1, 8) := by kernel_rfl
  obtain ⟨i0, hi, hz0, hz1, hz2⟩ := info_parts hI0
  obtain ⟨v', w', hr, h2, h3⟩ := run_push (P := Tryz.prog) (w := w) B 30 o.type 3 i0 8 Tryz.underlying30 hi hz0 hz1 hz2 v n (xs.map (Value.int .i64)) hown A len cap zs hI (by unfold maxLen; omega) (by omega) hB
  rw [← List.map_append] at h2
  obtain ⟨A', cap', rfl, -, -⟩ := isI_of_own h2
  unfold Oper.wp execOp
  simp only [ho, resolve, invoke, builtin, Sem.run_bind, Sem.run_pure, Result.andThen_ok, List.map_toArray, List.map_cons, List.map_nil, hs, hx, hr]
  exact hK _ _ (hk A' cap' w' h2 (below_grownB h0 hown h3 hB) h3.size)
set_option maxRecDepth 100000 in
set_option maxHeartbeats 8000000 in
theorem rall_any (A1 B1 C1 : Option Addr) (na qa nb qb nc qc : Nat) (z1 z2 z3 : List Int) (w : World) (h1 : IsT 1 intCells w A1 na z1) (h2 : IsT 1 intCells w B1 nb z2) (h3 : IsT 1 intCells w C1 nc z3) (l1 : na ≤ 1000) (l2 : nb ≤ 1000) (l3 : nc ≤ 1000) :
  Calls Tryz.prog 149 #[.agg #[.slice A1 na qa, .slice B1 nb qb, .slice C1 nc qc]] w fun e w' => ∃ (A' : Option Addr) (cap : Nat), e = .returned (.slice A' (na + nb + nc) cap) ∧ NewI w.heap.size w' A' (na + nb + nc) cap (z1 ++ z2 ++ z3) ∧ Below w.heap.size w w' := by
 have n1 := h1.1
 have n2 := h2.1
 have n3 := h3.1
 have HI1 := Lib.hid (fun W (hb : Below w.heap.size w W) => h1.below hb)
 have HI2 := Lib.hid (fun W (hb : Below w.heap.size w W) => h2.below hb)
 have HI3 := Lib.hid (fun W (hb : Below w.heap.size w W) => h3.below hb)
 clear h1 h2 h3
 go_enter Tryz.func149, Tryz.ntmps149
 go_upto_region 1 with (fail)
 have c0 : (w.alloc (.cells #[.slice A1 na qa, .slice B1 nb qb, .slice C1 nc qc] 32)).cell? ⟨w.heap.size, 0, none⟩ = some (.slice A1 na qa) := by go_simp
 have c1 : (w.alloc (.cells #[.slice A1 na qa, .slice B1 nb qb, .slice C1 nc qc] 32)).cell? ⟨w.heap.size, 1, none⟩ = some (.slice B1 nb qb) := by go_simp
 have c2 : (w.alloc (.cells #[.slice A1 na qa, .slice B1 nb qb, .slice C1 nc qc] 32)).cell? ⟨w.heap.size, 2, none⟩ = some (.slice C1 nc qc) := by go_simp
 have hB0 : Below w.heap.size w (w.alloc (.cells #[.slice A1 na qa, .slice B1 nb qb, .slice C1 nc qc] 32)) := by (repeat first | with_reducible exact Below.refl _ _ | (with_reducible refine Below.alloc ?_ ?_ _; rotate_left; exact (by omega)))
 have hz : w.heap.size < (w.alloc (.cells #[.slice A1 na qa, .slice B1 nb qb, .slice C1 nc qc] 32)).heap.size := by simp
 obtain ⟨W0, hW0⟩ : ∃ W, (w.alloc (.cells #[.slice A1 na qa, .slice B1 nb qb, .slice C1 nc qc] 32)) = W := ⟨_, rfl⟩
 rw [hW0] at c0 c1 c2 hB0 hz ⊢
 clear hW0
 have HS : Hid (∀ w' : World, Below W0.heap.size W0 w' → (Below W0.heap.size W0 w' ∧ w'.cell? ⟨w.heap.size, 0, none⟩ = some (.slice A1 na qa) ∧ w'.cell? ⟨w.heap.size, 1, none⟩ = some (.slice B1 nb qb) ∧ w'.cell? ⟨w.heap.size, 2, none⟩ = some (.slice C1 nc qc))) := Lib.hid (fun w' h => ⟨h, (h.cell (p := ⟨w.heap.size, 0, none⟩) hz).trans c0, (h.cell (p := ⟨w.heap.size, 1, none⟩) hz).trans c1, (h.cell (p := ⟨w.heap.size, 2, none⟩) hz).trans c2⟩)
 have HB : Hid (∀ w' : World, Below W0.heap.size W0 w' → Below w.heap.size w w') := Lib.hid (fun w' h => hB0.trans (h.mono (by omega)))
 go_wp2_with (at_builtin; first
  | (refine list_push W0.heap.size W0 rfl (Operand.tmp 4) (Operand.tmp 6) rfl _ 0 [] rfl (World.ownsRow_lit _ #[] 0 (by (try simp only [size_drew]); omega) (by decide) rfl) A1 na qa z1 rfl (HI1.out _ (HB.out _ (by (repeat first | with_reducible exact Below.refl _ _ | (with_reducible refine Below.alloc ?_ ?_ _; rotate_left; exact (by omega)))))) na (by omega) (by omega) (by omega) (by (try simp only [World.size_alloc, size_drew]); omega) (by (repeat first | with_reducible exact Below.refl _ _ | (with_reducible refine Below.alloc ?_ ?_ _; rotate_left; exact (by omega)))) ?_; intro A2 cap2 w1 hown1 hBa hsa; have g1 := (hBa.cell (p := ⟨w.heap.size, 1, none⟩) hz).trans c1; have g2 := (hBa.cell (p := ⟨w.heap.size, 2, none⟩) hz).trans c2; have sz1 := hBa.size; have HR1 := Lib.hid hown1; clear hown1)
  | (refine list_push W0.heap.size W0 rfl (Operand.tmp 8) (Operand.tmp 10) rfl (.slice A2 na cap2) na ([] ++ z1) rfl HR1.out B1 nb qb z2 rfl (HI2.out _ (HB.out _ (by (repeat with_reducible assumption)))) (na + nb) rfl (by omega) (by omega) (by (try simp only [World.size_alloc, size_drew]); omega) (by (repeat with_reducible assumption)) ?_; intro A3 cap3 w2 hown2 hBb hsb; have g3 := (hBb.cell (p := ⟨w.heap.size, 2, none⟩) hz).trans c2; have sz2 := hBb.size; have HR2 := Lib.hid hown2; clear hown2)
  | (refine list_push W0.heap.size W0 rfl (Operand.tmp 12) (Operand.tmp 14) rfl (.slice A3 (na + nb) cap3) (na + nb) ([] ++ z1 ++ z2) rfl HR2.out C1 nc qc z3 rfl (HI3.out _ (HB.out _ (by (repeat with_reducible assumption)))) (na + nb + nc) rfl (by omega) (by omega) (by (try simp only [World.size_alloc, size_drew]); omega) (by (repeat with_reducible assumption)) ?_; intro A4 cap4 w3 hown3 hBd hsd; have sz3 := hBd.size; have HR3 := Lib.hid hown3; clear hown3))
 have h3r := HR3.out
 simp only [List.nil_append] at h3r
 obtain ⟨A5, cap5, hv, hN⟩ := newI_of_row (by simp [n1, n2, n3, Nat.add_assoc]) h3r
 obtain ⟨rfl, rfl⟩ : A4 = A5 ∧ cap4 = cap5 := by simpa using hv
 go_ret
 exact ⟨A4, cap4, rfl, hN.mono (by omega), HB.out _ hBd⟩
end Go.Proofs.YtapldonpflgnfaaGreatDoor
end
