import Derived.Test.YtpnoinkiblnplaaDoorJAA
import Derived.Test.YtpnoinkiblnplaaDoorJAD
import Derived.Laws.OwnMore
import Derived.Deep.OwnRows
import Derived.RangeFuncNested
import Derived.RangeFuncBound
import Derived.RangeFuncCalls
import Derived.RangeFuncLeaves
import Derived.Shelf.Abstract
import Derived.Shelf.RegionOpen
import Derived.WalkKit
import Derived.OwnWalkIn
import Derived.TacticsInMore
import Derived.LoopNIn
import Derived.LoopIn
import Derived.OrdersIn
import Derived.Laws.World
section
/- Lists of whole numbers in new memory: slices.Clone, over this seat's translation. -/
namespace Go.Proofs.YtpnoinkiblnplaaDoor
set_option linter.unusedVariables false
set_option linter.unusedSimpArgs false
open Go.RowKit Go.Shelf

/-- A list of whole numbers that lies in the blocks from B on. -/
structure NewI (B : Nat) (w' : World) (A : Option Addr) (len cap : Nat) (zs : List Int) : Prop where
  isT : IsT 1 intCells w' A len zs
  le : len ≤ cap
  cap : cap ≤ maxLen
  new : ∀ a, A = some a → B ≤ a.block
  lt : ∀ a, A = some a → a.block < w'.heap.size
theorem NewI.below {B : Nat} {w1 w2 : World} {A : Option Addr} {len cap : Nat} {zs : List Int} (h : NewI B w1 A len cap zs) (hb : Below w1.heap.size w1 w2) : NewI B w2 A len cap zs :=
  ⟨h.isT.below hb, h.le, h.cap, h.new, fun a ha => Nat.lt_of_lt_of_le (h.lt a ha) hb.size⟩

theorem NewI.drew {B : Nat} {W : World} {A : Option Addr} {len cap : Nat} {zs : List Int} (h : NewI B W A len cap zs) : NewI B W.drew A len cap zs :=
  h.below ((Below.refl _ _).drew)
theorem NewI.alloc {B : Nat} {W : World} {A : Option Addr} {len cap : Nat} {zs : List Int} (h : NewI B W A len cap zs) (o : Obj) : NewI B (W.alloc o) A len cap zs :=
  h.below ((Below.refl _ _).alloc (Nat.le_refl _) o)
theorem NewI.setCell {B : Nat} {W : World} {A : Option Addr} {len cap : Nat} {zs : List Int} (h : NewI B W A len cap zs) {p : Addr} (hp : ∀ a, A = some a → a.block ≠ p.block) (v : Value) : NewI B (W.setCell p v) A len cap zs :=
  ⟨⟨h.isT.1, fun h0 => by
      obtain ⟨b, o, e, h1, h2⟩ := h.isT.2 h0
      refine ⟨b, o, e, by rw [World.size_setCell]; exact h1, fun j x hx i u hu => ?_⟩
      rw [World.cell?_setCell_other _ _ _ _ (fun e2 => hp _ e (by first | exact congrArg Addr.block e2 | exact (congrArg Addr.block e2).symm))]
      exact h2 j x hx i u hu⟩, h.le, h.cap, h.new, fun a ha => by rw [World.size_setCell]; exact h.lt a ha⟩
theorem NewI.mono {B B' : Nat} {W : World} {A : Option Addr} {len cap : Nat} {zs : List Int} (h : NewI B W A len cap zs) (hB : B' ≤ B) : NewI B' W A len cap zs :=
  ⟨h.isT, h.le, h.cap, fun a ha => Nat.le_trans hB (h.new a ha), h.lt⟩

/-- Block b begins with n zeros, none marked. -/
structure ZeroL (b n : Nat) (W : World) : Prop where
  lt : b < W.heap.size
  cell : ∀ j, j < n → W.cell? ⟨b, j, none⟩ = some (.int .i64 0)
  mark : ∀ j, j < n → W.frozen? ⟨b, j, none⟩ = false
theorem ZeroL.new (W : World) (n : Nat) (t : TypeId) (hn : n ≤ 1000000000000) : ZeroL W.heap.size n (W.alloc (.cells (madeCells #[.int .i64 0] n) t)) := by
  have hrow := World.ownsRow_lit (base := W.heap.size) (size := 1) (e := t) W (madeCells #[.int .i64 0] n) n (Nat.le_refl _) (by unfold maxLen; omega) (by rw [size_madeCells]; omega)
  refine ⟨by simp, fun j hj => ?_, fun j hj => hrow.frozenAt j⟩
  rw [hrow.cellAt j (by omega), toList_madeCells_one]
  simp [List.getElem?_replicate, hj]
theorem ZeroL.below {b n : Nat} {W W' : World} (h : ZeroL b n W) (hb : Below W.heap.size W W') : ZeroL b n W' :=
  ⟨Nat.lt_of_lt_of_le h.lt hb.size, fun j hj => (hb.cell (p := ⟨b, j, none⟩) h.lt).trans (h.cell j hj), fun j hj => (hb.frozen (p := ⟨b, j, none⟩) h.lt).trans (h.mark j hj)⟩
theorem ZeroL.drew {b n : Nat} {W : World} (h : ZeroL b n W) : ZeroL b n W.drew := h.below ((Below.refl _ _).drew)
theorem ZeroL.alloc {b n : Nat} {W : World} (h : ZeroL b n W) (o : Obj) : ZeroL b n (W.alloc o) := h.below ((Below.refl _ _).alloc (Nat.le_refl _) o)
theorem ZeroL.setCell {b n : Nat} {W : World} (h : ZeroL b n W) {p : Addr} (hp : b ≠ p.block) (v : Value) : ZeroL b n (W.setCell p v) :=
  ⟨by rw [World.size_setCell]; exact h.lt, fun j hj => by
      rw [World.cell?_setCell_other _ _ _ _ (fun e => hp (by first | exact congrArg Addr.block e | exact (congrArg Addr.block e).symm))]; exact h.cell j hj, fun j hj => by rw [World.frozen?_setCell]; exact h.mark j hj⟩
theorem newI_of_row {B : Nat} {w' : World} {e : TypeId} {v : Value} {n : Nat} {zs : List Int} (hz : zs.length = n) (h : w'.ownsRow B e 1 v n (zs.map (Value.int .i64))) :
    ∃ (A : Option Addr) (cap : Nat), v = .slice A n cap ∧ NewI B w' A n cap zs := by
  have h2 := h.2
  rcases h2 with ⟨hv, hn⟩ | ⟨g, cap, cur, hv, hB, hg, hc, hm, hs, ht⟩
  · subst hn
    exact ⟨none, 0, hv, ⟨⟨hz, fun h0 => absurd h0 (by omega)⟩, Nat.le_refl _, Nat.zero_le _, (fun a ha => by cases ha), (fun a ha => by cases ha)⟩⟩
  · subst hv
    refine ⟨_, cap, rfl, ⟨⟨hz, fun h0 => ⟨g, 0, rfl, ?_, fun j x hx i v hv => ?_⟩⟩, hc, hm, fun a ha => ?_, fun a ha => ?_⟩⟩
    · exact (Array.getElem?_eq_some_iff.1 hg).1
    · have hj : j < n := by rw [← hz]; exact (List.getElem?_eq_some_iff.1 hx).1
      have hi : i = 0 := by
        have := (List.getElem?_eq_some_iff.1 hv).1
        simp [intCells] at this; omega
      subst hi
      have hc := h.cellAt j (by omega)
      rw [List.getElem?_map, hx] at hc
      have hv' : v = .int .i64 x := by simpa [intCells] using hv.symm
      subst hv'
      simpa using hc
    · obtain rfl := Option.some.inj ha
      exact hB
    · obtain rfl := Option.some.inj ha
      exact (Array.getElem?_eq_some_iff.1 hg).1

theorem clone_any (A : Option Addr) (len cap : Nat) (zs : List Int) (w : World) (hI : IsT 1 intCells w A len zs) (hl : len ≤ 1000000000000) :
    Calls Tryd.prog 47 #[.slice A len cap] w fun e w' => ∃ (A' : Option Addr) (cap' : Nat), e = .returned (.slice A' len cap') ∧ NewI w.heap.size w' A' len cap' zs ∧ Below w.heap.size w w' := by
  have hz := hI.1
  cases A with
  | none =>
    have h0 : len = 0 := by
      rcases Nat.eq_zero_or_pos len with h | h
      · exact h
      · obtain ⟨b, o, e, -, -⟩ := hI.2 h; cases e
    subst h0
    refine (Tryd.slices_Clone_int_nil 0 cap w).mono ?_
    rintro e w' ⟨rfl, rfl⟩
    exact ⟨none, 0, rfl, ⟨⟨hz, fun h0 => absurd h0 (by omega)⟩, Nat.le_refl _, Nat.zero_le _, (fun a ha => by cases ha), (fun a ha => by cases ha)⟩, Below.refl _ _⟩
  | some a =>
    rcases Nat.eq_zero_or_pos len with h | h
    · subst h
      refine (Tryd.slices_Clone_int_zero a cap w).mono ?_
      rintro e w' ⟨v', rfl, hrow, -, hb⟩
      obtain rfl : zs = [] := List.eq_nil_of_length_eq_zero hz
      obtain ⟨A', cap', rfl, hn⟩ := newI_of_row (zs := []) rfl hrow
      exact ⟨A', cap', rfl, hn, hb⟩
    · obtain ⟨b, o, e, hb0, hcl⟩ := hI.2 h
      obtain rfl := Option.some.inj e
      refine (Tryd.slices_Clone_int b o len cap zs w (by omega) (by omega) (fun j hj => ?_)).mono ?_
      · have hx : zs[j]? = some zs[j] := List.getElem?_eq_getElem hj
        have := hcl j _ hx 0 _ rfl
        rw [List.getD_eq_getElem?_getD, hx]
        simpa using this
      · rintro e w' ⟨v', rfl, hrow, -, hb⟩
        rw [List.take_of_length_le (by omega)] at hrow
        obtain ⟨A', cap', rfl, hn⟩ := newI_of_row hz hrow
        exact ⟨A', cap', rfl, hn, hb⟩

end Go.Proofs.YtpnoinkiblnplaaDoor
end
section
/- Blocks whose cells are known, carried on as long as the memory below stays, over this seat's translation (written by mk_whc.py). -/
namespace Go.Proofs.YtpnoinkiblnplaaDoor
set_option linter.unusedVariables false
set_option linter.unusedSimpArgs false
open Go.RowKit

/-- Block b holds the values vs from its first cell on. -/
def BoxL (b : Nat) (vs : List Value) (W : World) : Prop := b < W.heap.size ∧ ∀ (k : Nat) (v : Value), vs[k]? = some v → W.cell? ⟨b, k, none⟩ = some v
theorem BoxL.at {b : Nat} {vs : List Value} {W : World} (h : BoxL b vs W) (k : Nat) (v : Value) (hv : vs[k]? = some v) : W.cell? ⟨b, k, none⟩ = some v := h.2 k v hv
theorem BoxL.below {b : Nat} {vs : List Value} {W W' : World} (h : BoxL b vs W) (hb : Below W.heap.size W W') : BoxL b vs W' :=
  ⟨Nat.lt_of_lt_of_le h.1 hb.size, fun k v hv => (hb.cell (p := ⟨b, k, none⟩) h.1).trans (h.2 k v hv)⟩
theorem BoxL.mk1 {b : Nat} {v0 : Value} {W : World} (hb : b < W.heap.size) (h0 : W.cell? ⟨b, 0, none⟩ = some v0) : BoxL b [v0] W :=
  ⟨hb, fun k v hv => by match k, hv with | 0, hv => rw [h0]; exact hv⟩
theorem BoxL.mk2 {b : Nat} {v0 v1 : Value} {W : World} (hb : b < W.heap.size) (h0 : W.cell? ⟨b, 0, none⟩ = some v0) (h1 : W.cell? ⟨b, 1, none⟩ = some v1) : BoxL b [v0, v1] W :=
  ⟨hb, fun k v hv => by match k, hv with | 0, hv => rw [h0]; exact hv | 1, hv => rw [h1]; exact hv⟩
theorem BoxL.mk3 {b : Nat} {v0 v1 v2 : Value} {W : World} (hb : b < W.heap.size) (h0 : W.cell? ⟨b, 0, none⟩ = some v0) (h1 : W.cell? ⟨b, 1, none⟩ = some v1) (h2 : W.cell? ⟨b, 2, none⟩ = some v2) : BoxL b [v0, v1, v2] W :=
  ⟨hb, fun k v hv => by match k, hv with | 0, hv => rw [h0]; exact hv | 1, hv => rw [h1]; exact hv | 2, hv => rw [h2]; exact hv⟩
theorem BoxL.mk10 {b : Nat} {v0 v1 v2 v3 v4 v5 v6 v7 v8 v9 : Value} {W : World} (hb : b < W.heap.size) (h0 : W.cell? ⟨b, 0, none⟩ = some v0) (h1 : W.cell? ⟨b, 1, none⟩ = some v1) (h2 : W.cell? ⟨b, 2, none⟩ = some v2) (h3 : W.cell? ⟨b, 3, none⟩ = some v3) (h4 : W.cell? ⟨b, 4, none⟩ = some v4) (h5 : W.cell? ⟨b, 5, none⟩ = some v5) (h6 : W.cell? ⟨b, 6, none⟩ = some v6) (h7 : W.cell? ⟨b, 7, none⟩ = some v7) (h8 : W.cell? ⟨b, 8, none⟩ = some v8) (h9 : W.cell? ⟨b, 9, none⟩ = some v9) : BoxL b [v0, v1, v2, v3, v4, v5, v6, v7, v8, v9] W :=
  ⟨hb, fun k v hv => by match k, hv with | 0, hv => rw [h0]; exact hv | 1, hv => rw [h1]; exact hv | 2, hv => rw [h2]; exact hv | 3, hv => rw [h3]; exact hv | 4, hv => rw [h4]; exact hv | 5, hv => rw [h5]; exact hv | 6, hv => rw [h6]; exact hv | 7, hv => rw [h7]; exact hv | 8, hv => rw [h8]; exact hv | 9, hv => rw [h9]; exact hv⟩
/-- The first n cells of block b bear no mark. -/
def MarkL (b n : Nat) (W : World) : Prop := b < W.heap.size ∧ ∀ k, k < n → W.frozen? ⟨b, k, none⟩ = false
theorem MarkL.at {b n : Nat} {W : World} (h : MarkL b n W) (k : Nat) (hk : k < n) : W.frozen? ⟨b, k, none⟩ = false := h.2 k hk
theorem MarkL.below {b n : Nat} {W W' : World} (h : MarkL b n W) (hb : Below W.heap.size W W') : MarkL b n W' :=
  ⟨Nat.lt_of_lt_of_le h.1 hb.size, fun k hk => (hb.frozen (p := ⟨b, k, none⟩) h.1).trans (h.2 k hk)⟩
theorem MarkL.mk2 {b : Nat} {W : World} (hb : b < W.heap.size) (h0 : W.frozen? ⟨b, 0, none⟩ = false) (h1 : W.frozen? ⟨b, 1, none⟩ = false) : MarkL b 2 W :=
  ⟨hb, fun k hk => by match k, hk with | 0, _ => exact h0 | 1, _ => exact h1⟩

end Go.Proofs.YtpnoinkiblnplaaDoor
end
section
/- Package sense: withoutPlasma, over this seat's translation. -/
namespace Go.Proofs.YtpnoinkiblnplaaDoor
set_option linter.unusedVariables false
set_option linter.unusedSimpArgs false
open Go.RowKit Go.Shelf

theorem resC {fn : Func} {a : Tmp} (h : fn.results = #[.cell a 32]) (tmps : Array Value) (W : World) (x : Nat) (v0 v1 v2 : Value)
    (hp : tmps.getD a undef = .pointer (some ⟨x, 0, none⟩)) (e0 : W.cell? ⟨x, 0, none⟩ = some v0) (e1 : W.cell? ⟨x, 1, none⟩ = some v1) (e2 : W.cell? ⟨x, 2, none⟩ = some v2) :
    (results fn tmps).run Tryd.prog W = .ok (.agg #[v0, v1, v2]) W := by
  have hp' : tmps[a]?.getD undef = .pointer (some ⟨x, 0, none⟩) := by simpa using hp
  simp [results, h, hp', go_sem, e0, e1, e2]

theorem resC3 {fn : Func} {p : Tmp} (h : fn.results = #[.cell p 32]) (tmps : Array Value) (W : World) (b : Nat) (x y z : Value)
    (hp : tmps.getD p undef = .pointer (some ⟨b, 0, none⟩)) (h0 : (W.cell? ⟨b, 0, none⟩).isSome = true) (h1 : (W.cell? ⟨b, 1, none⟩).isSome = true) (h2 : (W.cell? ⟨b, 2, none⟩).isSome = true) :
    (results fn tmps).run Tryd.prog (((W.setCell ⟨b, 0, none⟩ x).setCell ⟨b, 1, none⟩ y).setCell ⟨b, 2, none⟩ z) = .ok (.agg #[x, y, z]) (((W.setCell ⟨b, 0, none⟩ x).setCell ⟨b, 1, none⟩ y).setCell ⟨b, 2, none⟩ z) := by
  refine resC h tmps _ b x y z hp ?_ ?_ ?_
  · rw [World.cell?_setCell_other _ _ _ _ (by simp), World.cell?_setCell_other _ _ _ _ (by simp)]; exact World.cell?_setCell_same' _ _ _ h0
  · rw [World.cell?_setCell_other _ _ _ _ (by simp)]; exact World.cell?_setCell_same' _ _ _ (by rw [World.cell?_setCell_other _ _ _ _ (by simp)]; exact h1)
  · exact World.cell?_setCell_same' _ _ _ (by rw [World.cell?_setCell_other _ _ _ _ (by simp), World.cell?_setCell_other _ _ _ _ (by simp)]; exact h2)

/-- Currents in new memory, the cells all 0. -/
structure DarkAt (B : Nat) (w' : World) (A : Option Addr) (na ca : Nat) (z1 : List Int) (A2 : Option Addr) (nb cb : Nat) (z2 : List Int) (pb nc : Nat) : Prop where
  coils : NewI B w' A na ca z1
  shells : NewI B w' A2 nb cb z2
  base : B ≤ pb
  lt : pb < w'.heap.size
  apart : (∀ a, A = some a → a.block ≠ pb) ∧ ∀ a, A2 = some a → a.block ≠ pb
  zero : ZeroL pb nc w'
def Dark (na nb nc : Nat) (z1 z2 : List Int) (w : World) (e : Ending) (w' : World) : Prop :=
  ∃ (A : Option Addr) (ca : Nat) (A2 : Option Addr) (cb pb : Nat), e = .returned (.agg #[.slice A na ca, .slice A2 nb cb, .slice (some ⟨pb, 0, none⟩) nc nc]) ∧ DarkAt w.heap.size w' A na ca z1 A2 nb cb z2 pb nc ∧ Below w.heap.size w w'

theorem infoI : (Tryd.prog.info? 3).map (fun i => (i.zero, i.size, i.bytes)) = some (some (.int .i64 0), 1, 8) := by kernel_rfl

set_option maxRecDepth 100000 in
set_option maxHeartbeats 4000000 in
theorem dark_any (A1 B1 C1 : Option Addr) (na qa nb qb nc qc : Nat) (z1 z2 : List Int) (w : World) (h1 : IsT 1 intCells w A1 na z1) (h2 : IsT 1 intCells w B1 nb z2) (l1 : na ≤ 1000000000000) (l2 : nb ≤ 1000000000000) (l3 : nc ≤ 1000000000000) :
    Calls Tryd.prog 20 #[.agg #[.slice A1 na qa, .slice B1 nb qb, .slice C1 nc qc]] w (Dark na nb nc z1 z2 w) := by
  have HK1 := Lib.hid (fun W (hb : Below w.heap.size w W) => clone_any A1 na qa z1 W (h1.below hb) l1)
  have HK2 := Lib.hid (fun W (hb : Below w.heap.size w W) => clone_any B1 nb qb z2 W (h2.below hb) l2)
  clear h1 h2
  have hmk := run_make_row' (P := Tryd.prog) 30 3 (.int .i64 0) 8 Tryd.underlying30 infoI rfl .i64 .i64 nc (by omega) (by omega)
  go_enter Tryd.func20, Tryd.ntmps20
  go_upto_region 1 with (fail)
  have c0 : ((w.alloc (.cells #[.slice A1 na qa, .slice B1 nb qb, .slice C1 nc qc] 32)).alloc (.cells #[.slice none 0 0, .slice none 0 0, .slice none 0 0] 32)).cell? ⟨w.heap.size, 0, none⟩ = some (.slice A1 na qa) := by go_simp
  have c1 : ((w.alloc (.cells #[.slice A1 na qa, .slice B1 nb qb, .slice C1 nc qc] 32)).alloc (.cells #[.slice none 0 0, .slice none 0 0, .slice none 0 0] 32)).cell? ⟨w.heap.size, 1, none⟩ = some (.slice B1 nb qb) := by go_simp
  have c2 : ((w.alloc (.cells #[.slice A1 na qa, .slice B1 nb qb, .slice C1 nc qc] 32)).alloc (.cells #[.slice none 0 0, .slice none 0 0, .slice none 0 0] 32)).cell? ⟨w.heap.size, 2, none⟩ = some (.slice C1 nc qc) := by go_simp
  have d0 : ((w.alloc (.cells #[.slice A1 na qa, .slice B1 nb qb, .slice C1 nc qc] 32)).alloc (.cells #[.slice none 0 0, .slice none 0 0, .slice none 0 0] 32)).cell? ⟨w.heap.size + 1, 0, none⟩ = some (.slice none 0 0) := by go_simp
  have f0 : ((w.alloc (.cells #[.slice A1 na qa, .slice B1 nb qb, .slice C1 nc qc] 32)).alloc (.cells #[.slice none 0 0, .slice none 0 0, .slice none 0 0] 32)).frozen? ⟨w.heap.size + 1, 0, none⟩ = false := by go_simp
  have d1 : ((w.alloc (.cells #[.slice A1 na qa, .slice B1 nb qb, .slice C1 nc qc] 32)).alloc (.cells #[.slice none 0 0, .slice none 0 0, .slice none 0 0] 32)).cell? ⟨w.heap.size + 1, 1, none⟩ = some (.slice none 0 0) := by go_simp
  have f1 : ((w.alloc (.cells #[.slice A1 na qa, .slice B1 nb qb, .slice C1 nc qc] 32)).alloc (.cells #[.slice none 0 0, .slice none 0 0, .slice none 0 0] 32)).frozen? ⟨w.heap.size + 1, 1, none⟩ = false := by go_simp
  have d2 : ((w.alloc (.cells #[.slice A1 na qa, .slice B1 nb qb, .slice C1 nc qc] 32)).alloc (.cells #[.slice none 0 0, .slice none 0 0, .slice none 0 0] 32)).cell? ⟨w.heap.size + 1, 2, none⟩ = some (.slice none 0 0) := by go_simp
  have f2 : ((w.alloc (.cells #[.slice A1 na qa, .slice B1 nb qb, .slice C1 nc qc] 32)).alloc (.cells #[.slice none 0 0, .slice none 0 0, .slice none 0 0] 32)).frozen? ⟨w.heap.size + 1, 2, none⟩ = false := by go_simp
  have hB : Below w.heap.size w ((w.alloc (.cells #[.slice A1 na qa, .slice B1 nb qb, .slice C1 nc qc] 32)).alloc (.cells #[.slice none 0 0, .slice none 0 0, .slice none 0 0] 32)) := by (repeat first | with_reducible exact Below.refl _ _ | with_reducible assumption | (with_reducible refine Below.setCell ?_ ?_ _; rotate_left; exact (by first | omega | (simp; done) | (simp; omega))) | (with_reducible refine Below.alloc ?_ ?_ _; rotate_left; exact (by first | omega | (simp; done) | (simp; omega))) | with_reducible refine Below.drew ?_ | with_reducible refine Below_drewN ?_ _)
  have hz : w.heap.size + 1 < ((w.alloc (.cells #[.slice A1 na qa, .slice B1 nb qb, .slice C1 nc qc] 32)).alloc (.cells #[.slice none 0 0, .slice none 0 0, .slice none 0 0] 32)).heap.size := by simp
  obtain ⟨W0, hW0⟩ : ∃ W, (w.alloc (.cells #[.slice A1 na qa, .slice B1 nb qb, .slice C1 nc qc] 32)).alloc (.cells #[.slice none 0 0, .slice none 0 0, .slice none 0 0] 32) = W := ⟨_, rfl⟩
  rw [hW0] at c0 c1 c2 d0 d1 d2 f0 f1 f2 hB hz ⊢
  clear hW0
  have HS : Hid (∀ w' : World, Reg (w.heap.size + 1) (W0) w' → (Reg (w.heap.size + 1) (W0) w' ∧ w'.cell? ⟨w.heap.size, 0, none⟩ = some (.slice A1 na qa) ∧ w'.cell? ⟨w.heap.size, 1, none⟩ = some (.slice B1 nb qb) ∧ w'.cell? ⟨w.heap.size, 2, none⟩ = some (.slice C1 nc qc) ∧ w'.cell? ⟨w.heap.size + 1, 0, none⟩ = some (cur w' ⟨w.heap.size + 1, 0, none⟩) ∧ w'.frozen? ⟨w.heap.size + 1, 0, none⟩ = false ∧ w'.cell? ⟨w.heap.size + 1, 1, none⟩ = some (cur w' ⟨w.heap.size + 1, 1, none⟩) ∧ w'.frozen? ⟨w.heap.size + 1, 1, none⟩ = false ∧ w'.cell? ⟨w.heap.size + 1, 2, none⟩ = some (cur w' ⟨w.heap.size + 1, 2, none⟩) ∧ w'.frozen? ⟨w.heap.size + 1, 2, none⟩ = false)) := (fun w' h => by (have hc := h.cells; have hs := h.some; have hf := h.frozen; refine ⟨h, ?_⟩; (try simp only [World.size_alloc, World.size_setCell, size_drew, size_drewN] at hc hs hf); first | (simp (disch := omega) only [hc, hs, hf, cur_iff]; (try go_simp); done) | (simp (disch := first | omega | (simp; done)) only [hc, hs, hf, cur_iff]; (try go_simp); done) | (simp (maxDischargeDepth := 4) [hc, hs, hf, cur_iff, go_sem]; done) | (go_simp; done) | (simp (maxDischargeDepth := 4) [hc, hs, hf, cur_iff, go_sem]; go_simp))); go_region_held3 (fun w' => Reg (w.heap.size + 1) (W0) w' ∧ w'.cell? ⟨w.heap.size, 0, none⟩ = some (.slice A1 na qa) ∧ w'.cell? ⟨w.heap.size, 1, none⟩ = some (.slice B1 nb qb) ∧ w'.cell? ⟨w.heap.size, 2, none⟩ = some (.slice C1 nc qc) ∧ w'.cell? ⟨w.heap.size + 1, 0, none⟩ = some (cur w' ⟨w.heap.size + 1, 0, none⟩) ∧ w'.frozen? ⟨w.heap.size + 1, 0, none⟩ = false ∧ w'.cell? ⟨w.heap.size + 1, 1, none⟩ = some (cur w' ⟨w.heap.size + 1, 1, none⟩) ∧ w'.frozen? ⟨w.heap.size + 1, 1, none⟩ = false ∧ w'.cell? ⟨w.heap.size + 1, 2, none⟩ = some (cur w' ⟨w.heap.size + 1, 2, none⟩) ∧ w'.frozen? ⟨w.heap.size + 1, 2, none⟩ = false) (exact HS.out _ (by (repeat first | with_reducible exact Reg.refl _ _ | with_reducible exact Reg.drewN2 _ _ _ _ | with_reducible exact (‹Reg _ _ _ ∧ _›).1 | (with_reducible refine Reg.setCell ?_ ?_ _; rotate_left; exact (by first | omega | ((try simp only [World.size_alloc, World.size_setCell, size_drew, size_drewN]); omega) | (simp; done) | (simp; omega))) | with_reducible refine Reg.alloc ?_ _ | with_reducible refine Reg.drew ?_ | with_reducible refine Reg.drewN ?_ _ | (with_reducible apply Reg.call; rotate_left; with_reducible assumption)))) (first | (go_at_call 47; (with_reducible refine (HK1.out _ (Reg.out (‹Reg _ _ _ ∧ _›).1 (by (repeat first | with_reducible exact Below.refl _ _ | with_reducible assumption | (with_reducible refine Below.setCell ?_ ?_ _; rotate_left; exact (by first | omega | (simp; done) | (simp; omega))) | (with_reducible refine Below.alloc ?_ ?_ _; rotate_left; exact (by first | omega | (simp; done) | (simp; omega))) | with_reducible refine Below.drew ?_ | with_reducible refine Below_drewN ?_ _)) (by first | omega | (simp; done) | (simp; omega)))).mono ?_); rintro e w8 ⟨Ac, cac, rfl, hnc, hb⟩; have hbc := hb; (first | (with_reducible have hk := Nat.lt_of_lt_of_le (size_alloc_lt _ _) hb.size) | (with_reducible have hk := Nat.lt_of_lt_of_le (size_alloc_drew_lt _ _) hb.size) | (with_reducible have hk := Nat.lt_of_lt_of_le hk hb.size) | skip); (try simp only [World.size_alloc, World.size_setCell, size_drew, size_drewN] at hk); obtain ⟨hc, hf⟩ := bcell hb; have hs := hb.size; (try simp only [World.size_alloc, World.size_setCell, size_drew, size_drewN] at hs)) | (go_at_call 47; (with_reducible refine (HK2.out _ (Reg.out (‹Reg _ _ _ ∧ _›).1 (by (repeat first | with_reducible exact Below.refl _ _ | with_reducible assumption | (with_reducible refine Below.setCell ?_ ?_ _; rotate_left; exact (by first | omega | (simp; done) | (simp; omega))) | (with_reducible refine Below.alloc ?_ ?_ _; rotate_left; exact (by first | omega | (simp; done) | (simp; omega))) | with_reducible refine Below.drew ?_ | with_reducible refine Below_drewN ?_ _)) (by first | omega | (simp; done) | (simp; omega)))).mono ?_); rintro e w9 ⟨As, cas, rfl, hns, hb⟩; have hbs := hb; (first | (with_reducible have hk := Nat.lt_of_lt_of_le (size_alloc_lt _ _) hb.size) | (with_reducible have hk := Nat.lt_of_lt_of_le (size_alloc_drew_lt _ _) hb.size) | (with_reducible have hk := Nat.lt_of_lt_of_le hk hb.size) | skip); (try simp only [World.size_alloc, World.size_setCell, size_drew, size_drewN] at hk); obtain ⟨hc, hf⟩ := bcell hb; have hs := hb.size; (try simp only [World.size_alloc, World.size_setCell, size_drew, size_drewN] at hs)))
  all_goals go_wp2_with fail
  all_goals (have zz1 := hbc.size; have zz2 := hbs.size; (try simp only [World.size_alloc, World.size_setCell, size_drew, size_drewN] at zz1 zz2))
  all_goals (have q1 := hnc.new; have q2 := hnc.lt; have q3 := hns.new; have q4 := hns.lt; (try simp only [World.size_alloc, World.size_setCell, size_drew, size_drewN] at q1 q2 q3 q4))
  all_goals (have hnc0 := hnc.mono (B' := w.heap.size) (by (try simp only [World.size_alloc, World.size_setCell, size_drew, size_drewN]); omega); have hns0 := hns.mono (B' := w.heap.size) (by (try simp only [World.size_alloc, World.size_setCell, size_drew, size_drewN]); omega))
  all_goals exact bodyPost_ret (resC3 Tryd.results20 _ _ _ _ _ _ rfl ((Reg.some (x := w.heap.size + 1) (W := W0) (by (repeat first | with_reducible exact Reg.refl _ _ | with_reducible exact Reg.drewN2 _ _ _ _ | with_reducible exact (‹Reg _ _ _ ∧ _›).1 | (with_reducible refine Reg.setCell ?_ ?_ _; rotate_left; exact (by first | omega | ((try simp only [World.size_alloc, World.size_setCell, size_drew, size_drewN]); omega) | (simp; done) | (simp; omega))) | with_reducible refine Reg.alloc ?_ _ | with_reducible refine Reg.drew ?_ | with_reducible refine Reg.drewN ?_ _ | (with_reducible apply Reg.call; rotate_left; with_reducible assumption))) (w.heap.size + 1) 0 (by omega)).trans (by rw [d0]; rfl)) ((Reg.some (x := w.heap.size + 1) (W := W0) (by (repeat first | with_reducible exact Reg.refl _ _ | with_reducible exact Reg.drewN2 _ _ _ _ | with_reducible exact (‹Reg _ _ _ ∧ _›).1 | (with_reducible refine Reg.setCell ?_ ?_ _; rotate_left; exact (by first | omega | ((try simp only [World.size_alloc, World.size_setCell, size_drew, size_drewN]); omega) | (simp; done) | (simp; omega))) | with_reducible refine Reg.alloc ?_ _ | with_reducible refine Reg.drew ?_ | with_reducible refine Reg.drewN ?_ _ | (with_reducible apply Reg.call; rotate_left; with_reducible assumption))) (w.heap.size + 1) 1 (by omega)).trans (by rw [d1]; rfl)) ((Reg.some (x := w.heap.size + 1) (W := W0) (by (repeat first | with_reducible exact Reg.refl _ _ | with_reducible exact Reg.drewN2 _ _ _ _ | with_reducible exact (‹Reg _ _ _ ∧ _›).1 | (with_reducible refine Reg.setCell ?_ ?_ _; rotate_left; exact (by first | omega | ((try simp only [World.size_alloc, World.size_setCell, size_drew, size_drewN]); omega) | (simp; done) | (simp; omega))) | with_reducible refine Reg.alloc ?_ _ | with_reducible refine Reg.drew ?_ | with_reducible refine Reg.drewN ?_ _ | (with_reducible apply Reg.call; rotate_left; with_reducible assumption))) (w.heap.size + 1) 2 (by omega)).trans (by rw [d2]; rfl))) rfl ⟨_, _, _, _, _, rfl, ⟨(by (repeat first | with_reducible assumption | (with_reducible refine NewI.setCell ?_ (fun a ha => (by have h9 := q1 a ha; dsimp only; omega)) _) | with_reducible refine NewI.alloc ?_ _ | with_reducible refine NewI.drew ?_ | (with_reducible apply NewI.below; rotate_left; with_reducible assumption))), (by (repeat first | with_reducible assumption | (with_reducible refine NewI.setCell ?_ (fun a ha => (by have h9 := q3 a ha; dsimp only; omega)) _) | with_reducible refine NewI.alloc ?_ _ | with_reducible refine NewI.drew ?_ | (with_reducible apply NewI.below; rotate_left; with_reducible assumption))), (by (try simp only [World.size_alloc, World.size_setCell, size_drew, size_drewN]); omega), by (simp; try omega), ⟨fun a ha => (by have h9 := q1 a ha; have h8 := q2 a ha; (try simp only [World.size_alloc, World.size_setCell, size_drew, size_drewN]); omega), fun a ha => (by have h9 := q3 a ha; have h8 := q4 a ha; (try simp only [World.size_alloc, World.size_setCell, size_drew, size_drewN]); omega)⟩, by (repeat first | with_reducible assumption | (with_reducible exact ZeroL.new _ _ _ (by omega)) | (with_reducible refine ZeroL.setCell ?_ (by dsimp only; omega) _) | with_reducible refine ZeroL.alloc ?_ _ | with_reducible refine ZeroL.drew ?_ | (with_reducible apply ZeroL.below; rotate_left; with_reducible assumption))⟩, Reg.out (x := w.heap.size + 1) (by (repeat first | with_reducible exact Reg.refl _ _ | with_reducible exact Reg.drewN2 _ _ _ _ | with_reducible exact (‹Reg _ _ _ ∧ _›).1 | (with_reducible refine Reg.setCell ?_ ?_ _; rotate_left; exact (by first | omega | ((try simp only [World.size_alloc, World.size_setCell, size_drew, size_drewN]); omega) | (simp; done) | (simp; omega))) | with_reducible refine Reg.alloc ?_ _ | with_reducible refine Reg.drew ?_ | with_reducible refine Reg.drewN ?_ _ | (with_reducible apply Reg.call; rotate_left; with_reducible assumption))) hB (by omega)⟩

end Go.Proofs.YtpnoinkiblnplaaDoor
end
section
/- Package machine: the contract of Influence, over this seat's translation. -/
namespace Go.Proofs.YtpnoinkiblnplaaDoor
set_option linter.unusedVariables false
set_option linter.unusedSimpArgs false
open Go.RowKit

/-- The influence of two places. -/
def infl (a b c d : Int) : Int := if nearB a b 1000 = true ∧ nearB c d 1000 = true then 1000000 / (4 + (a - c) * (a - c) + (b - d) * (b - d)) else 0

theorem sq_bd {x : Int} (h0 : -2000 ≤ x) (h1 : x ≤ 2000) : 0 ≤ x * x ∧ x * x ≤ 4000000 := by
  rcases Int.le_total 0 x with h | h
  · exact ⟨Int.mul_nonneg h h, Int.mul_le_mul h1 h1 h (by omega)⟩
  · rw [← Int.neg_mul_neg]
    exact ⟨Int.mul_nonneg (by omega) (by omega), Int.mul_le_mul (a := -x) (b := -x) (c := 2000) (d := 2000) (by omega) (by omega) (by omega) (by omega)⟩
theorem nearB_bd {r z f : Int} (h : nearB r z f = true) : (-f ≤ r ∧ r ≤ f) ∧ -f ≤ z ∧ z ≤ f := by simpa [nearB, wthn] using h
theorem infl_bd (a b c d : Int) : 0 ≤ infl a b c d ∧ infl a b c d ≤ 250000 := by
  unfold infl
  split
  · rename_i h
    have h1 := nearB_bd h.1
    have h2 := nearB_bd h.2
    have s1 := sq_bd (x := a - c) (by omega) (by omega)
    have s2 := sq_bd (x := b - d) (by omega) (by omega)
    generalize (a - c) * (a - c) = p at *
    generalize (b - d) * (b - d) = q at *
    refine ⟨Int.ediv_nonneg (by omega) (by omega), ?_⟩
    have : 1000000 / (4 + p + q) ≤ 1000000 / 4 := by
      rw [Int.le_ediv_iff_mul_le (by omega)]
      have h4 : 1000000 / (4 + p + q) * (4 + p + q) ≤ 1000000 := Int.ediv_mul_le _ (by omega)
      have h5 : 0 ≤ 1000000 / (4 + p + q) := Int.ediv_nonneg (by omega) (by omega)
      have h6 : 1000000 / (4 + p + q) * 4 ≤ 1000000 / (4 + p + q) * (4 + p + q) := Int.mul_le_mul_of_nonneg_left (by omega) h5
      omega
    omega
  · omega

set_option maxRecDepth 100000 in
set_option maxHeartbeats 2000000 in
theorem influence_any (a b c d : Int) (w : World) :
    Calls Tryd.prog 61 #[.agg #[.int .i64 a, .int .i64 b], .agg #[.int .i64 c, .int .i64 d]] w (Ret (.int .i64 (infl a b c d)) w) := by
  cases n1 : nearB a b 1000
  · have HE : Hid (infl a b c d = 0) := Lib.hid (by unfold infl; rw [if_neg (by simp [n1])])
    go_enter Tryd.func61, Tryd.ntmps61
    go_wp2_with (go_at_call 90; refine (near_any _ _ _ _ (by omega) (by omega)).mono ?_; rintro e w1 ⟨rfl, rfl⟩)
    go_ret
    exact ⟨by rw [HE.out]; rfl, by (repeat first | with_reducible exact Below.refl _ _ | with_reducible assumption | (with_reducible refine Below.setCell ?_ ?_ _; rotate_left; exact (by first | omega | (simp; done) | (simp; omega))) | (with_reducible refine Below.alloc ?_ ?_ _; rotate_left; exact (by first | omega | (simp; done) | (simp; omega))) | with_reducible refine Below.drew ?_ | with_reducible refine Below_drewN ?_ _)⟩
  cases n2 : nearB c d 1000
  · have HE : Hid (infl a b c d = 0) := Lib.hid (by unfold infl; rw [if_neg (by simp [n2])])
    go_enter Tryd.func61, Tryd.ntmps61
    go_wp2_with (go_at_call 90; refine (near_any _ _ _ _ (by omega) (by omega)).mono ?_; rintro e w1 ⟨rfl, rfl⟩)
    go_ret
    exact ⟨by rw [HE.out]; rfl, by (repeat first | with_reducible exact Below.refl _ _ | with_reducible assumption | (with_reducible refine Below.setCell ?_ ?_ _; rotate_left; exact (by first | omega | (simp; done) | (simp; omega))) | (with_reducible refine Below.alloc ?_ ?_ _; rotate_left; exact (by first | omega | (simp; done) | (simp; omega))) | with_reducible refine Below.drew ?_ | with_reducible refine Below_drewN ?_ _)⟩
  have HE : Hid (infl a b c d = 1000000 / (4 + (a - c) * (a - c) + (b - d) * (b - d))) := Lib.hid (by unfold infl; rw [if_pos ⟨n1, n2⟩])
  obtain ⟨⟨a0, a1⟩, b0, b1⟩ := nearB_bd n1
  obtain ⟨⟨c0, c1⟩, d0, d1⟩ := nearB_bd n2
  have s1 := sq_bd (x := a - c) (by omega) (by omega)
  have s2 := sq_bd (x := b - d) (by omega) (by omega)
  have e1 : IntKind.i64.wrap (a - c) = a - c := IntWalk.i64_in _ (by omega)
  have e2 : IntKind.i64.wrap (b - d) = b - d := IntWalk.i64_in _ (by omega)
  go_enter Tryd.func61, Tryd.ntmps61
  go_wp2_with (go_at_call 90; refine (near_any _ _ _ _ (by omega) (by omega)).mono ?_; rintro e w1 ⟨rfl, rfl⟩)
  go_quiet (fail)
  obtain ⟨g0, g1⟩ := infl_bd a b c d
  generalize infl a b c d = G at *
  generalize hx : a - c = x at *
  generalize hy : b - d = y at *
  clear n1 n2
  generalize hp : x * x = p at *
  generalize hq : y * y = q at *
  have k0 : ¬(4 + p + q = 0) := by omega
  have k1 : ((4 + p + q) == 0) = false := by rw [beq_eq_false_iff_ne]; omega
  have k2 : (1000000 : Int).tdiv (4 + p + q) = G := by rw [HE.out]; exact Int.tdiv_eq_ediv_of_nonneg (by omega)
  have k3 : (1000000 : Int) / (4 + p + q) = G := HE.out.symm
  clear HE
  go_wp2_with fail
  go_ret
  exact ⟨rfl, by (repeat first | with_reducible exact Below.refl _ _ | with_reducible assumption | (with_reducible refine Below.setCell ?_ ?_ _; rotate_left; exact (by first | omega | (simp; done) | (simp; omega))) | (with_reducible refine Below.alloc ?_ ?_ _; rotate_left; exact (by first | omega | (simp; done) | (simp; omega))) | with_reducible refine Below.drew ?_ | with_reducible refine Below_drewN ?_ _)⟩

end Go.Proofs.YtpnoinkiblnplaaDoor
end
section
/- Package machine: the iterator sources of a machine that has neither coils nor shells, and fluxAt over it, over this seat's translation. -/
namespace Go.Proofs.YtpnoinkiblnplaaDoor
set_option linter.unusedVariables false
set_option linter.unusedSimpArgs false
open Go.RowKit Go.Shelf
attribute [local go_sem] Oper.semAt_some

theorem grown_of_below {a b : World} (h : Below a.heap.size a b) : a.grownBy b none := ⟨h.os, h.tape, h.output, h.size, fun k hk _ => h.block k hk⟩

/-- What a round keeps: what lay below n₀, and the two boxes of the iterator. -/
def KpF (n₀ tm tc : Nat) (W W' : World) : Prop := Below n₀ W W' ∧ ∀ b o, b = tm ∨ b = tc → W'.cell? ⟨b, o, none⟩ = W.cell? ⟨b, o, none⟩
theorem KpF.t {n₀ tm tc : Nat} {A B C : World} (h : KpF n₀ tm tc A B) (k : KpF n₀ tm tc B C) : KpF n₀ tm tc A C := ⟨h.1.trans k.1, fun b o hb => (k.2 b o hb).trans (h.2 b o hb)⟩
theorem KpF.refl (n₀ tm tc : Nat) (A : World) : KpF n₀ tm tc A A := ⟨Below.refl _ _, fun _ _ _ => rfl⟩
theorem KpF.of_below {n₀ tm tc : Nat} {A B : World} (h0 : n₀ ≤ A.heap.size) (h1 : tm < A.heap.size) (h2 : tc < A.heap.size) (h : Below A.heap.size A B) : KpF n₀ tm tc A B :=
  ⟨h.mono h0, fun b o hb => h.cell (p := ⟨b, o, none⟩) (by show b < _; omega)⟩
theorem KpF.b {n₀ tm tc : Nat} {w : World} (hn : n₀ ≤ w.heap.size) (h1 : tm < w.heap.size) (h2 : tc < w.heap.size) (W : World) (l : Nat) (o o' : Obj) (hl : w.heap.size ≤ l) (h : W.heap[l]? = some o) (a : o.isCells = false) (b : o.isWalk = false) : KpF n₀ tm tc W (W.putObj l o') :=
  ⟨belowK_b hn W l o o' hl h a b, fun k i hk => World.cell?_of_block (w := W) (a := ⟨k, i, none⟩) (World.putObj_heap_other (by intro e; dsimp only at e; omega))⟩
theorem KpF.cell {n₀ tm tc : Nat} {W W' : World} (h : KpF n₀ tm tc W W') {b o : Nat} {v : Value} (hb : b = tm ∨ b = tc) (hv : W.cell? ⟨b, o, none⟩ = some v) : W'.cell? ⟨b, o, none⟩ = some v := (h.2 b o hb).trans hv

/-- A place with its current. -/
abbrev Src := (Int × Int) × Int
abbrev srcEnc (x : Src) : Array Value := #[.agg #[.int .i64 x.1.1, .int .i64 x.1.2], .int .i64 x.2]
/-- The first k cells with their currents. -/
def cellSrc (g : GridD) (zs : List Int) (k : Nat) : List Src := (List.range k).map fun (j : Nat) => ((cellR g (j : Int), cellZ g (j : Int)), zs[j]?.getD 0)
theorem cellSrc_succ (g : GridD) (zs : List Int) (k : Nat) : cellSrc g zs (k + 1) = cellSrc g zs k ++ [((cellR g (k : Int), cellZ g (k : Int)), zs[k]?.getD 0)] := by simp [cellSrc, List.range_succ]
theorem cellSrc_length (g : GridD) (zs : List Int) (k : Nat) : (cellSrc g zs k).length = k := by simp [cellSrc]

/-- What the program adds up. -/
def fluxW (p : Int × Int) : Int → List Src → Int
  | s, [] => s
  | s, x :: r => fluxW p (wrap64 (s + wrap64 (infl p.1 p.2 x.1.1 x.1.2 * x.2))) r
theorem fluxW_snoc (p : Int × Int) (s : Int) (pre : List Src) (x : Src) : fluxW p s (pre ++ [x]) = wrap64 (fluxW p s pre + wrap64 (infl p.1 p.2 x.1.1 x.1.2 * x.2)) := by
  induction pre generalizing s with
  | nil => rfl
  | cons y r ih => exact ih _

set_option maxRecDepth 100000 in
set_option maxHeartbeats 4000000 in
theorem sources1_bare (n : Nat) (hn : 3 ≤ n) (l tm tc n₀ len cap ca cb : Nat) (A B C : Option Addr) (g : GridD) (hg : g.Fine) (zs : List Int) (hl : len ≤ 1000) (J Jx : List Src → World → Prop)
    (hJ : ∀ pre W W', J pre W → Below W.heap.size W W' → J pre W')
    (hY : ∀ pre x W, J pre W → pre.length < len → YieldAt Fence.wide (n - 1) Tryd.prog l (srcEnc x) W fun e W' =>
      (e = .returned (.bool true) ∧ J (pre ++ [x]) W' ∧ KpF n₀ tm tc W W') ∨ (e = .returned (.bool false) ∧ Jx (pre ++ [x]) W'))
    (W : World) (hz : zs.length = len) (hC : 0 < len → ∃ b o : Nat, C = some ⟨b, o, none⟩ ∧ b < n₀ ∧ b < W.heap.size ∧ ∀ j x, zs[j]? = some x → W.cell? ⟨b, o + j, none⟩ = some (.int .i64 x)) (htm : tm < W.heap.size) (htc : tc < W.heap.size) (hn₀ : n₀ ≤ W.heap.size)
    (m1 : W.cell? ⟨tm, 1, none⟩ = some (.slice A 0 ca)) (m2 : W.cell? ⟨tm, 2, none⟩ = some (.slice B 0 cb)) (m4 : W.cell? ⟨tm, 4, none⟩ = some (.int .i64 g.r)) (m5 : W.cell? ⟨tm, 5, none⟩ = some (.int .i64 g.z)) (m6 : W.cell? ⟨tm, 6, none⟩ = some (.int .i64 g.nr)) (m7 : W.cell? ⟨tm, 7, none⟩ = some (.int .i64 g.nz)) (m8 : W.cell? ⟨tm, 8, none⟩ = some (.int .i64 g.step))
    (k2 : W.cell? ⟨tc, 2, none⟩ = some (.slice C len cap)) (h0 : J [] W) :
    CallsIn Fence.wide n Tryd.prog 89 #[.func (.yield l) #[] #[], .pointer (some ⟨tm, 0, none⟩), .pointer (some ⟨tc, 0, none⟩)] W fun e W' => (∃ v, e = .returned v) ∧
      ((∃ ys, ys = cellSrc g zs len ∧ J ys W') ∨ (∃ pre, (∃ k, k ≤ len ∧ pre = cellSrc g zs k) ∧ Jx pre W')) := by
  have HP := Lib.hid (fun (i : Nat) (hi : i < len) W => cellPlace_any g (i : Int) W hg (by omega) (by omega))
  have HJ := Lib.hid hJ
  have HC := Lib.hid hC
  have HS := Lib.hid (fun k => cellSrc_succ g zs k)
  have HL := Lib.hid (fun k => cellSrc_length g zs k)
  clear hJ hC hg
  have h86 : Fence.wide.fn 52 := trivial
  refine callsIn_of_wp Tryd.func89 rfl trivial ?_ rfl
  simp only [Tryd.ntmps89, List.size_toArray, List.length_cons, List.length_nil, Nat.reduceAdd, Nat.reduceSub, Array.replicate_succ, Array.replicate_zero, List.push_toArray, List.append_toArray, List.nil_append, List.cons_append]
  gi_wp2
  gi_loopw [13] (fun i wr => i = .int .i64 0 ∧ wr = W) (fun _ _ => 0)
  case atStart => exact ⟨rfl, rfl⟩
  case round =>
    obtain ⟨rfl, rfl⟩ := hrel
    gi_wp2
    gi_loopw [38] (fun i wx => i = .int .i64 0 ∧ wx = wr) (fun _ _ => 0)
    case atStart => exact ⟨rfl, rfl⟩
    case round =>
      obtain ⟨rfl, rfl⟩ := hrel
      obtain ⟨W0, rfl⟩ : ∃ W0 : World, W0 = wr := ⟨_, rfl⟩
      gi_wp2
      gi_loopw [60] (fun i wx => ∃ k : Nat, k ≤ len ∧ i = .int .i64 k ∧ J (cellSrc g zs k) wx ∧ KpF n₀ tm tc W0 wx ∧ W0.heap.size ≤ wx.heap.size) (fun i _ => len - (intOf i).toNat)
      case atStart => exact ⟨0, Nat.zero_le _, rfl, h0, KpF.refl _ _ _ _, Nat.le_refl _⟩
      case round =>
        obtain ⟨k, hk, rfl, hJs, hnx, hsz⟩ := hrel
        by_cases hlt : k < len
        · obtain ⟨b, o, rfl, hb0, hb1, hcl⟩ := HC.out (by omega)
          obtain ⟨x, hx⟩ : ∃ x, zs[k]? = some x := ⟨_, List.getElem?_eq_getElem (by omega)⟩
          have x0 := (hnx.1.cell (p := ⟨b, o + k, none⟩) hb0).trans (hcl k x hx)
          have y4 := hnx.cell (.inl rfl) m4
          have y5 := hnx.cell (.inl rfl) m5
          have y6 := hnx.cell (.inl rfl) m6
          have y7 := hnx.cell (.inl rfl) m7
          have y8 := hnx.cell (.inl rfl) m8
          have HX : Hid (cellSrc g zs (k + 1) = cellSrc g zs k ++ [((cellR g (k : Int), cellZ g (k : Int)), x)]) := Lib.hid (by rw [HS.out, hx]; rfl)
          have HPk := Lib.hid (HP.out k hlt)
          have HYk := Lib.hid (fun W1 (hJ1 : J (cellSrc g zs k) W1) => hY _ ((cellR g (k : Int), cellZ g (k : Int)), x) W1 hJ1 (by rw [HL.out]; exact hlt))
          clear hcl hx hY
          generalize cellR g (k : Int) = R at *
          generalize cellZ g (k : Int) = Z at *
          gi_wp2_with (refine ⟨fun _ => (by omega), ?_⟩; gi_at_call 52; refine (callsIn_wide.2 (HPk.out _)).mono ?_; rintro e w1 ⟨rfl, hb⟩; have hJ1 := HJ.out _ _ _ hJs hb; have hn1 := KpF.of_below (n₀ := n₀) (tm := tm) (tc := tc) (by omega) (by omega) (by omega) hb; have hs1 := hb.size; obtain ⟨fn, tmps, assign, body, hy, hR⟩ := HYk.out w1 hJ1; simp only [srcEnc] at hy)
          refine ⟨fun _ => (by omega), hR.mono ?_⟩
          clear hR hy
          rintro e W3 (⟨rfl, hJ3, hk3⟩ | ⟨rfl, hJx3⟩)
          · gi_wp2
            go_roundw
            case rel => exact ⟨k + 1, by omega, by go_num, by rw [HX.out]; exact hJ3, hnx.t (hn1.t hk3), by have := hk3.1.size; omega⟩
            case measure => simp [intOf]; omega
          · gi_wp2
            refine bodyPost_ret (results_none rfl _ _ _) rfl ?_
            exact ⟨⟨_, rfl⟩, .inr ⟨_, ⟨k + 1, by omega, HX.out.symm⟩, hJx3⟩⟩
        · obtain rfl : k = len := by omega
          gi_wp2
          go_end0
          exact ⟨⟨_, rfl⟩, .inl ⟨_, rfl, hJs⟩⟩

set_option maxHeartbeats 1000000 in
theorem sources_in (n : Nat) (mc cc : Array Value) (w : World) :
    CallsIn Fence.wide n Tryd.prog 60 #[.agg mc, .agg cc] w fun e w' => e = .returned (.func (.func 89) #[] #[.pointer (some ⟨w.heap.size, 0, none⟩), .pointer (some ⟨w.heap.size + 1, 0, none⟩)]) ∧ w' = (w.alloc (.cells mc 29)).alloc (.cells cc 32) := by
  refine callsIn_of_wp Tryd.func60 rfl trivial ?_ rfl
  simp only [Tryd.ntmps60, List.size_toArray, List.length_cons, List.length_nil, Nat.reduceAdd, Nat.reduceSub, Array.replicate_succ, Array.replicate_zero, List.push_toArray, List.append_toArray, List.nil_append, List.cons_append]
  gi_wp2
  go_ret
  exact ⟨rfl, rfl⟩

end Go.Proofs.YtpnoinkiblnplaaDoor
end
section
/- Regions that draw their order, inside a fence, where the loads yield the same in every world of a class: my own laws beside the library's for activations outside of a fence. -/
namespace Go.Proofs.YtpnoinkiblnplaaDoor
set_option linter.unusedVariables false

section
variable {F : Fence} {n : Nat} {P : Program} {ops : Array Oper} {Q : Exit → Act → World → Prop} {md : Region.Mode} {S : World → Prop}

/-- In every world of the class, the operation gives v and leaves the world; it calls nothing. -/
structure Gives (P : Program) (ops : Array Oper) (S : World → Prop) (o : Oper) (v : Value) (a : Act) : Prop where
  gives : (Region.wanted o (yielded ops a.tmps) = true ∧ ∀ w, S w → (execOp a.eval o).run P w = .ok (.value v) w) ∨ (Region.wanted o (yielded ops a.tmps) = false ∧ v = undef)
  calm : ∀ w, o.about P w a.eval = none

theorem Gives.same {o : Oper} {v : Value} {a b : Act} (h : Gives P ops S o v a) (he : execOp b.eval o = execOp a.eval o) (hw : Region.wanted o (yielded ops b.tmps) = Region.wanted o (yielded ops a.tmps)) (hc : ∀ w, o.about P w b.eval = o.about P w a.eval) : Gives P ops S o v b :=
  ⟨by rw [he, hw]; exact h.gives, fun w => by rw [hc]; exact h.calm w⟩

theorem Gives.step {i : Nat} {o : Oper} {v : Value} {a : Act} (hro : F.round = none) (hi : ops[i]? = some o) (h : Gives P ops S o v a) {K : Act → World → Prop} {w : World} (hS : S w) (hK : K (a.put o.dst v) w) : wpOpIn F n P ops Q i K a w := by
  unfold wpOpIn
  simp only [hi]
  have hab : ∀ f, o.about P w a.eval = some f → F.fn f := fun f hf => by rw [h.calm w] at hf; cases hf
  rcases h.gives with ⟨hw, hv⟩ | ⟨hw, rfl⟩
  · simp only [hw, if_true, Oper.wpIn, hro, Oper.semAt_none, hv w hS, Oper.uponIn]; exact ⟨hab, hK⟩
  · simp only [hw, Bool.false_eq_true, if_false]; exact ⟨hab, hK⟩

/-- An operation that is apart from o: o's value may lie there already. -/
theorem step_put {j : Nat} {oi oj : Oper} {v : Value} (hro : F.round = none) (hj : ops[j]? = some oj) (hap : oi.apart ops oj = true)
    (hsi : ∀ cs b, oi.op ≠ .select cs b) (hsj : ∀ cs b, oj.op ≠ .select cs b)
    (hQ : ∀ c a w, Q (.panic c) (a.put oi.dst v) w → Q (.panic c) a w) {K : Act → World → Prop} {a : Act} {w : World}
    (hy : Gives P ops S oi v a) (h : wpOpIn F n P ops Q j K (a.put oi.dst v) w) :
    wpOpIn F n P ops Q j (fun a' w' => Gives P ops S oi v a' ∧ K (a'.put oi.dst v) w') a w := by
  obtain ⟨h1, h2, h3⟩ := Oper.apart_spec hap
  have keep : ∀ b : Act, Gives P ops S oi v b → ∀ u, Gives P ops S oi v (b.put oj.dst u) := fun b hb u =>
    hb.same (execOp_put oi hsi b oj.dst u h3) (wanted_put oi b oj.dst u h3) (fun w => about_put oi w b oj.dst u h3)
  unfold wpOpIn at *
  simp only [hj] at *
  rw [wanted_put oj a oi.dst v h1, about_put oj w a oi.dst v h1] at h
  by_cases hw : Region.wanted oj (yielded ops a.tmps) = true
  · rw [if_pos hw] at h ⊢
    unfold Oper.wpIn at *
    rw [about_put oj w a oi.dst v h1] at h
    obtain ⟨h0, h⟩ := h
    refine ⟨h0, ?_⟩
    rw [hro, Oper.semAt_none, execOp_put oj hsj a oi.dst v h1] at h
    rw [hro, Oper.semAt_none]
    cases hr : (execOp a.eval oj).run P w with
    | halt x w' =>
      rw [hr] at h
      cases x <;> simp only [Oper.uponIn] at h ⊢
      case panic u => exact hQ _ _ _ h
    | ok x w' =>
      rw [hr] at h
      cases x <;> simp only [Oper.uponIn] at h ⊢
      case value u => exact ⟨keep a hy u, by rw [← Act.put_comm a v u h2]; exact h⟩
      case skip => exact ⟨keep a hy _, by rw [← Act.put_comm a v undef h2]; exact h⟩
      case defer d => exact ⟨keep _ (hy.same (b := { a with defers := d :: a.defers }) rfl rfl (fun _ => rfl)) _, by rw [← Act.put_comm _ v undef h2, ← Act.put_defers]; exact h⟩
      case enter f args =>
        refine ⟨h.1, CallsIn.mono h.2 fun e w'' he => ?_⟩
        cases e with
        | returned u => exact ⟨keep a hy u, by rw [← Act.put_comm a v u h2]; exact he⟩
        | panicked c => exact hQ _ _ _ he
        | outgrown => exact he
      case row row args => exact ⟨h.1, RowsIn.mono h.2 fun u w'' he => ⟨keep a hy u, by rw [← Act.put_comm a v u h2]; exact he⟩⟩
      case round l f tmps assign body =>
        refine ⟨h.1, RoundIn.mono h.2 fun e w'' he => ?_⟩
        cases e with
        | returned u => exact ⟨keep a hy u, by rw [← Act.put_comm a v u h2]; exact he⟩
        | panicked c => exact hQ _ _ _ he
        | outgrown => exact he
  · rw [if_neg hw] at h ⊢
    exact ⟨h.1, keep a hy _, by rw [← Act.put_comm a v undef h2]; exact h.2⟩

/-- What has come up has all behind it that it waits for. -/
def Closed (md : Region.Mode) (ops : Array Oper) (listed : Array Bool) : Prop :=
  ∀ (k : Nat) (o : Oper), ops[k]? = some o → listed.getD k false = true → ∀ e ∈ o.after, Region.binds md e = true → listed.getD e.on false = true
theorem getD_keep {listed : Array Bool} {i k : Nat} (h : listed.getD k false = true) : (listed.setIfInBounds i true).getD k false = true := by
  by_cases e : i = k
  · subst e
    rcases Nat.lt_or_ge i listed.size with h' | h'
    · simp [h']
    · simp [Array.getElem?_eq_none h'] at h
  · rw [getD_set_ne false e]; exact h
theorem Closed.step {listed : Array Bool} {j : Nat} (h : Closed md ops listed) (hj : j ∈ Region.ready md ops listed) : Closed md ops (listed.setIfInBounds j true) := by
  intro k o ho hk e he hb
  by_cases hjk : j = k
  · subst hjk
    obtain ⟨-, o', ho', hall⟩ := mem_ready.1 hj
    obtain rfl : o' = o := Option.some.inj (ho'.symm.trans ho)
    exact getD_keep (hall e he hb)
  · rw [getD_set_ne false hjk] at hk
    exact getD_keep (h k o ho hk e he hb)
/-- c waits for i, by way of the operations named. -/
def waitsB (md : Region.Mode) (ops : Array Oper) (c : Nat) : Nat → List Nat → Bool
  | i, [] => i == c
  | i, k :: r => (match ops[k]? with
    | some o => o.after.any fun e => Region.binds md e && e.on == i
    | none => false) && waitsB md ops c k r
theorem waits_listed {listed : Array Bool} {c : Nat} (h : Closed md ops listed) (hc : listed.getD c false = true) : ∀ (ks : List Nat) (i : Nat), waitsB md ops c i ks = true → listed.getD i false = true := by
  intro ks
  induction ks with
  | nil => intro i hi; obtain rfl : i = c := by simpa [waitsB] using hi
           exact hc
  | cons k r ih =>
    intro i hi
    unfold waitsB at hi
    rw [Bool.and_eq_true] at hi
    have hk := ih k hi.2
    cases ho : ops[k]? with
    | none => rw [ho] at hi; exact absurd hi.1 (by simp)
    | some o =>
      rw [ho] at hi
      obtain ⟨e, he, hb⟩ := Array.any_eq_true'.1 hi.1
      rw [Bool.and_eq_true, beq_iff_eq] at hb
      rw [← hb.2]
      exact h k o ho hk e he hb.1
def closedB (md : Region.Mode) (ops : Array Oper) (listed : Array Bool) : Bool :=
  (List.range ops.size).all fun k => match ops[k]? with
    | some o => !listed.getD k false || o.after.all fun e => !Region.binds md e || listed.getD e.on false
    | none => true
theorem closed_of {listed : Array Bool} (h : closedB md ops listed = true) : Closed md ops listed := by
  intro k o ho hk e he hb
  have hlt : k < ops.size := (Array.getElem?_eq_some_iff.1 ho).1
  have h1 := List.all_eq_true.1 h k (List.mem_range.2 hlt)
  rw [ho] at h1
  dsimp only at h1
  rw [hk] at h1
  have h2 := Array.all_eq_true'.1 (by simpa using h1 : o.after.all (fun e => !Region.binds md e || listed.getD e.on false) = true) e he
  rw [hb] at h2
  simpa using h2

/-- Whatever comes up next: the world stays till c has come up. -/
def anyW (F : Fence) (n : Nat) (P : Program) (md : Region.Mode) (ops : Array Oper) (Q : Exit → Act → World → Prop) (c : Nat) (W : World) : Nat → Array Bool → Act → World → Prop
  | 0, listed, a, w => Region.ready md ops listed = [] ∧ Q .normal a w
  | fuel + 1, listed, a, w => (Region.ready md ops listed = [] → Q .normal a w) ∧
    ∀ i ∈ Region.ready md ops listed, wpOpIn F n P ops Q i (fun b w' => ((listed.setIfInBounds i true).getD c false = true ∨ w' = W) ∧ anyW F n P md ops Q c W fuel (listed.setIfInBounds i true) b w') a w

theorem any_of_anyW {c : Nat} {W : World} : ∀ (fuel : Nat) (listed : Array Bool) (a : Act) (w : World), anyW F n P md ops Q c W fuel listed a w → wpAnyIn F n P md ops Q fuel listed a w
  | 0, _, _, _, h => h
  | fuel + 1, _, _, _, h => ⟨h.1, fun i hi => wpOpIn_mono (fun b w' hb => any_of_anyW fuel _ b w' hb.2) (h.2 i hi)⟩
/-- Once c has come up, nothing more is asked. -/
theorem anyW_rest {c : Nat} {W : World} : ∀ (fuel : Nat) (listed : Array Bool) (a : Act) (w : World), listed.getD c false = true → wpAnyIn F n P md ops Q fuel listed a w → anyW F n P md ops Q c W fuel listed a w
  | 0, _, _, _, _, h => h
  | fuel + 1, _, _, _, hc, h => ⟨h.1, fun i hi => wpOpIn_mono (fun b w' hb => ⟨.inl (getD_keep hc), anyW_rest fuel _ b w' (getD_keep hc) hb⟩) (h.2 i hi)⟩

theorem anyW_first {c i : Nat} {W : World} {oi : Oper} {v : Value} (ks : List Nat) (hro : F.round = none) (hi : ops[i]? = some oi) (hsel : ∀ (j : Nat) (o : Oper) cs b, ops[j]? = some o → o.op ≠ .select cs b)
    (hks : waitsB md ops c i ks = true) (hic : i ≠ c) (hQ : ∀ c a w, Q (.panic c) (a.put oi.dst v) w → Q (.panic c) a w) :
    ∀ (fuel : Nat) (listed : Array Bool) (a : Act) (w : World), Closed md ops listed →
      (∀ j oj, ops[j]? = some oj → j ≠ i → listed.getD j true = false → (∀ e ∈ oj.after, Region.binds md e = true → e.on ≠ i) → oi.apart ops oj = true) →
      i ∈ Region.ready md ops listed → Gives P ops (fun w => w = W) oi v a → (listed.getD c false = true ∨ w = W) →
      anyW F n P md ops Q c W fuel (listed.setIfInBounds i true) (a.put oi.dst v) w → anyW F n P md ops Q c W (fuel + 1) listed a w := by
  have unl : ∀ listed : Array Bool, Closed md ops listed → i ∈ Region.ready md ops listed → ¬ listed.getD c false = true := fun listed hcl hr hc => by
    have h1 := waits_listed hcl hc ks i hks
    have h0 := (mem_ready.1 hr).1
    rcases Nat.lt_or_ge i listed.size with h' | h'
    · simp [h'] at h0 h1; rw [h0] at h1; cases h1
    · simp [Array.getElem?_eq_none h'] at h1
  intro fuel
  induction fuel with
  | zero =>
    intro listed a w hcl _ hr hy hw H
    have hW := hw.resolve_left (unl listed hcl hr)
    refine ⟨fun h0 => (by rw [h0] at hr; cases hr), fun j hj => ?_⟩
    by_cases e : j = i
    · subst e; exact hy.step hro hi hW ⟨.inr hW, H⟩
    · have h1 := ready_mono hj e
      rw [H.1] at h1
      cases h1
  | succ fuel ih =>
    intro listed a w hcl hap hr hy hw H
    have hW := hw.resolve_left (unl listed hcl hr)
    refine ⟨fun h0 => (by rw [h0] at hr; cases hr), fun j hj => ?_⟩
    by_cases e : j = i
    · subst e; exact hy.step hro hi hW ⟨.inr hW, H⟩
    · obtain ⟨hjun, oj, hoj, hall⟩ := mem_ready.1 hj
      have hiun := (mem_ready.1 hr).1
      have hnot : ∀ x ∈ oj.after, Region.binds md x = true → x.on ≠ i := fun x hx hb heq => by
        have h1 := hall x hx hb
        rw [heq] at h1
        rcases Nat.lt_or_ge i listed.size with h' | h'
        · simp [h'] at hiun h1; rw [hiun] at h1; cases h1
        · simp [Array.getElem?_eq_none h'] at h1
      have h2 := step_put hro hoj (hap j oj hoj e hjun hnot) (fun cs b => hsel i oi cs b hi) (fun cs b => hsel j oj cs b hoj) hQ hy (H.2 j (ready_mono hj e))
      refine wpOpIn_mono (fun b w' h3 => ?_) h2
      have h4 : (listed.setIfInBounds j true).getD c false = true ∨ w' = W := h3.2.1.imp (fun h => by
        rw [Array.setIfInBounds_comm _ _ (Ne.symm e), getD_set_ne false hic] at h; exact h) id
      refine ⟨h4, ih (listed.setIfInBounds j true) b w' (hcl.step hj) (fun k ok hk hki hun hno => hap k ok hk hki ?_ hno) (ready_mono hr (Ne.symm e)) h3.1 h4 ?_⟩
      · by_cases hjk : j = k
        · subst hjk; exact hjun
        · rw [getD_set_ne true hjk] at hun; exact hun
      · rw [Array.setIfInBounds_comm _ _ e]
        exact h3.2.2

/-- A read is taken first. -/
theorem anyW_take {c i : Nat} {W : World} {oi : Oper} {v : Value} {fuel : Nat} {listed : Array Bool} {a : Act} {w : World} (ks : List Nat) (d : Option Tmp) (hro : F.round = none) (hi : ops[i]? = some oi) (hd : oi.dst = d)
    (hs : Region.noSelect ops = true) (hf : Region.free md ops listed i = true) (hr : (Region.ready md ops listed).contains i = true) (hks : (waitsB md ops c i ks && !(i == c)) = true) (hcl : closedB md ops listed = true)
    (hQ : ∀ c a w, Q (.panic c) (a.put oi.dst v) w → Q (.panic c) a w) (hy : Gives P ops (fun w => w = W) oi v a) (hw : listed.getD c false = true ∨ w = W)
    (h : anyW F n P md ops Q c W fuel (listed.setIfInBounds i true) (a.put d v) w) : anyW F n P md ops Q c W (fuel + 1) listed a w := by
  subst hd
  rw [Bool.and_eq_true] at hks
  exact anyW_first ks hro hi (Region.noSelect_spec hs) hks.1 (by simpa using hks.2) hQ fuel listed a w (closed_of hcl) (Region.free_spec hi hf) (by simpa using hr) hy hw h

/-- c itself, the one that may come up. -/
theorem anyW_one {c : Nat} {W : World} {o : Oper} {fuel : Nat} {listed : Array Bool} {a : Act} {w : World} (hr : Region.ready md ops listed = [c]) (ho : ops[c]? = some o) (hin : (listed.setIfInBounds c true).getD c false = true)
    (h : ∀ K : Act → World → Prop, (∀ b w', wpAnyIn F n P md ops Q fuel (listed.setIfInBounds c true) b w' → K b w') → if Region.wanted o (yielded ops a.tmps) = true then Oper.wpIn F n P o a w K Q else (∀ f, o.about P w a.eval = some f → F.fn f) ∧ K (a.put o.dst undef) w) :
    anyW F n P md ops Q c W (fuel + 1) listed a w :=
  ⟨fun h0 => (by rw [hr] at h0; cases h0), fun j hj => by
    rw [hr] at hj
    obtain rfl : j = c := by simpa using hj
    exact wpOpIn_step ho fun K hK => h K fun b w' hb => hK b w' ⟨.inl hin, anyW_rest _ _ _ _ hin hb⟩⟩

/-- An operation that yields in whatever world, its destination written out. -/
theorem anyIn_takeD {i : Nat} {oi : Oper} {v : Value} {fuel : Nat} {listed : Array Bool} {a : Act} {w : World} (d : Option Tmp) (hro : F.round = none) (hi : ops[i]? = some oi) (hd : oi.dst = d)
    (hs : Region.noSelect ops = true) (hf : Region.free md ops listed i = true) (hr : (Region.ready md ops listed).contains i = true)
    (hQ : ∀ c a w, Q (.panic c) (a.put oi.dst v) w → Q (.panic c) a w) (hy : YieldsFenced P ops oi v a)
    (h : wpAnyIn F n P md ops Q fuel (listed.setIfInBounds i true) (a.put d v) w) : wpAnyIn F n P md ops Q (fuel + 1) listed a w := by
  subst hd; exact wpAnyIn_take hro hi hs hf hr hQ hy h

/-- The beginning. -/
theorem region_W {id : Nat} {a : Act} {w : World} (c : Nat) (hm : P.follows .mixedOrders = true)
    (h : anyW F n P .any ops Q c w.drew ops.size (Array.replicate ops.size false) a w.drew) : (Code.region id ops true).wpIn F n P Q a w :=
  wpIn_region_any hm (any_of_anyW _ _ _ _ h)

end
end Go.Proofs.YtpnoinkiblnplaaDoor
end
