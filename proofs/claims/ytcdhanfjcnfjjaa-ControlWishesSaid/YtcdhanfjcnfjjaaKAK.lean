import Derived.Test.YtcdhanfjcnfjjaaKAA
import Derived.Test.YtcdhanfjcnfjjaaKAG
import Derived.Test.YtcdhanfjcnfjjaaKAJ
import Derived.Laws.AppendOwn
import Derived.Laws.AppendOwnNone
import Derived.WalkKit
import Derived.Lib.Hide
import Derived.Deep.RegionHeld3
import Derived.Deep.AppendLies
import Derived.Laws.MathBits
section
/- The specification's whole numbers of any length: how they lie in memory, and the contract of Of, over this seat's translation. -/
namespace Go.Proofs.Ytcdhanfjcnfjjaa
set_option linter.unusedVariables false
set_option linter.unusedSimpArgs false
open Go.RowKit

/-- A list of ints, nil or not, from block base on. -/
def IsI (w : World) (base : Nat) (A : Option Addr) (n : Nat) (P : List Int) : Prop :=
  P.length = n ∧ (0 < n → ∃ b o : Nat, A = some ⟨b, o, none⟩ ∧ base ≤ b ∧ b < w.heap.size ∧ ∀ j, j < n → w.cell? ⟨b, o + j, none⟩ = some (.int .i64 (P.getD j 0)))
theorem IsI.below {w w1 : World} {base n : Nat} {A : Option Addr} {P : List Int} (h : IsI w base A n P) (hb : Below w.heap.size w w1) : IsI w1 base A n P :=
  ⟨h.1, fun h0 => by
    obtain ⟨b, o, e, h1, h2, h3⟩ := h.2 h0
    exact ⟨b, o, e, h1, Nat.lt_of_lt_of_le h2 hb.size, fun j hj => (hb.cell (p := ⟨b, _, none⟩) h2).trans (h3 j hj)⟩⟩
theorem IsI.setCell {w : World} {base n : Nat} {A : Option Addr} {P : List Int} (h : IsI w base A n P) {p : Addr} (hp : p.block < base) (v : Value) : IsI (w.setCell p v) base A n P :=
  ⟨h.1, fun h0 => by
    obtain ⟨b, o, e, h1, h2, h3⟩ := h.2 h0
    refine ⟨b, o, e, h1, by rw [World.size_setCell]; exact h2, fun j hj => ?_⟩
    rw [World.cell?_setCell_other _ _ _ _ (by intro e; subst e; simp at hp; omega)]
    exact h3 j hj⟩
theorem IsI.mono {w : World} {base base' n : Nat} {A : Option Addr} {P : List Int} (h : IsI w base A n P) (hb : base' ≤ base) : IsI w base' A n P :=
  ⟨h.1, fun h0 => by
    obtain ⟨b, o, e, h1, h2, h3⟩ := h.2 h0
    exact ⟨b, o, e, Nat.le_trans hb h1, h2, h3⟩⟩

/-- A value that is the number z. -/
def BigV (w : World) (v : Value) (z : Int) : Prop :=
  ∃ (A : Option Addr) (n cap : Nat) (P : List Int), v = .agg #[.bool (decide (z < 0)), .slice A n cap] ∧ IsI w 0 A n P ∧ n ≤ cap ∧ n ≤ 64 ∧ Canon P ∧ val P = max z (-z)
theorem BigV.below {w w1 : World} {v : Value} {z : Int} (h : BigV w v z) (hb : Below w.heap.size w w1) : BigV w1 v z := by
  obtain ⟨A, n, cap, P, h1, h2, h3⟩ := h
  exact ⟨A, n, cap, P, h1, h2.below hb, h3⟩

/-- The same, its digits from block base on. -/
def BigB (w : World) (base : Nat) (v : Value) (z : Int) : Prop :=
  ∃ (A : Option Addr) (n cap : Nat) (P : List Int), v = .agg #[.bool (decide (z < 0)), .slice A n cap] ∧ IsI w base A n P ∧ n ≤ cap ∧ n ≤ 64 ∧ Canon P ∧ val P = max z (-z)
theorem BigB.below {w w1 : World} {base : Nat} {v : Value} {z : Int} (h : BigB w base v z) (hb : Below w.heap.size w w1) : BigB w1 base v z := by
  obtain ⟨A, n, cap, P, h1, h2, h3⟩ := h
  exact ⟨A, n, cap, P, h1, h2.below hb, h3⟩
theorem BigB.mono {w : World} {base base' : Nat} {v : Value} {z : Int} (h : BigB w base v z) (hb : base' ≤ base) : BigB w base' v z := by
  obtain ⟨A, n, cap, P, h1, h2, h3⟩ := h
  exact ⟨A, n, cap, P, h1, h2.mono hb, h3⟩
theorem BigB.setCell {w : World} {base : Nat} {v : Value} {z : Int} (h : BigB w base v z) {p : Addr} (hp : p.block < base) (u : Value) : BigB (w.setCell p u) base v z := by
  obtain ⟨A, n, cap, P, h1, h2, h3⟩ := h
  exact ⟨A, n, cap, P, h1, h2.setCell hp u, h3⟩

end Go.Proofs.Ytcdhanfjcnfjjaa
end
section
/- The specification of layer 2: From, over this seat's translation (written by mk_from.py). -/
namespace Go.Proofs.Ytcdhanfjcnfjjaa
set_option linter.unusedVariables false
set_option linter.unusedSimpArgs false
open Go.RowKit Go.Shelf

end Go.Proofs.Ytcdhanfjcnfjjaa
end
section
/- The specification of layer 2: All, over this seat's translation (written by mk_all.py). -/
namespace Go.Proofs.Ytcdhanfjcnfjjaa
set_option linter.unusedVariables false
set_option linter.unusedSimpArgs false
open Go.RowKit Go.Shelf

end Go.Proofs.Ytcdhanfjcnfjjaa
end
section
/- Rows of cells in memory of one's own: filled cell by cell, and appended to empty literals, over this seat's translation. -/
namespace Go.Proofs.Ytcdhanfjcnfjjaa
set_option linter.unusedVariables false
set_option linter.unusedSimpArgs false
open Go.RowKit Go.Shelf

/-- Block b holds just the values vs, none marked. -/
structure RowL (b : Nat) (vs : List Value) (W : World) : Prop where
  lt : b < W.heap.size
  cell : ∀ (j : Nat) (v : Value), vs[j]? = some v → W.cell? ⟨b, j, none⟩ = some v
  mark : ∀ j, j < vs.length → W.frozen? ⟨b, j, none⟩ = false
theorem RowL.below {b : Nat} {vs : List Value} {W W' : World} (h : RowL b vs W) (hb : Below W.heap.size W W') : RowL b vs W' :=
  ⟨Nat.lt_of_lt_of_le h.lt hb.size, fun j v hv => (hb.cell (p := ⟨b, j, none⟩) h.lt).trans (h.cell j v hv), fun j hj => (hb.frozen (p := ⟨b, j, none⟩) h.lt).trans (h.mark j hj)⟩
theorem RowL.new (W : World) (cs : Array Value) (t : TypeId) : RowL W.heap.size cs.toList (W.alloc (.cells cs t)) := by
  refine ⟨by simp, fun j v hv => ?_, fun j hj => ?_⟩
  · rw [Array.getElem?_toList] at hv
    unfold World.cell?
    rw [heap_alloc_new]
    simpa using hv
  · unfold World.frozen?
    rw [heap_alloc_new]
    simp
theorem RowL.drew {b : Nat} {vs : List Value} {W : World} (h : RowL b vs W) : RowL b vs W.drew := h.below ((Below.refl _ _).drew)
theorem RowL.alloc {b : Nat} {vs : List Value} {W : World} (h : RowL b vs W) (o : Obj) : RowL b vs (W.alloc o) := h.below ((Below.refl _ _).alloc (Nat.le_refl _) o)
theorem RowL.far {b : Nat} {vs : List Value} {W : World} (h : RowL b vs W) {p : Addr} (hp : b ≠ p.block) (v : Value) : RowL b vs (W.setCell p v) :=
  ⟨by rw [World.size_setCell]; exact h.lt, fun j u hu => by
      rw [World.cell?_setCell_other _ _ _ _ (fun e => hp (by first | exact congrArg Addr.block e | exact (congrArg Addr.block e).symm))]; exact h.cell j u hu, fun j hj => by rw [World.frozen?_setCell]; exact h.mark j hj⟩
theorem RowL.put {b : Nat} {vs : List Value} {W : World} (h : RowL b vs W) (k : Nat) (v : Value) (hk : k < vs.length) : RowL b (vs.set k v) (W.setCell ⟨b, k, none⟩ v) :=
  ⟨by rw [World.size_setCell]; exact h.lt, fun j u hu => by
      by_cases e : j = k
      · subst e
        rw [List.getElem?_set_self hk] at hu
        obtain rfl := Option.some.inj hu
        exact World.cell?_setCell_same' _ _ _ (by rw [h.cell j _ (List.getElem?_eq_getElem hk)]; rfl)
      · rw [World.cell?_setCell_other _ _ _ _ (fun h2 => by
          have := congrArg Addr.off h2
          dsimp only at this
          omega)]
        exact h.cell j u (by rwa [List.getElem?_set_ne (Ne.symm e)] at hu), fun j hj => by rw [World.frozen?_setCell]; exact h.mark j (by simpa using hj)⟩
theorem RowL.isI {b : Nat} {zs : List Int} {W : World} (h : RowL b (zs.map (Value.int .i64)) W) {n : Nat} (hn : zs.length = n) : IsT 1 intCells W (some ⟨b, 0, none⟩) n zs := by
  refine ⟨hn, fun _ => ⟨b, 0, rfl, h.lt, fun j x hx i v hv => ?_⟩⟩
  have hi : i = 0 := by
    have := (List.getElem?_eq_some_iff.1 hv).1
    simp [intCells] at this; omega
  subst hi
  have hv' : v = .int .i64 x := by simpa [intCells] using hv.symm
  subst hv'
  rw [show (0 + j * 1 + 0 : Nat) = j by omega]
  exact h.cell j _ (by rw [List.getElem?_map, hx]; rfl)
theorem ZeroL.row {b n : Nat} {W : World} (h : ZeroL b n W) : RowL b (List.replicate n (.int .i64 0)) W :=
  ⟨h.lt, fun j v hv => by
    have hj := (List.getElem?_eq_some_iff.1 hv).1
    rw [List.length_replicate] at hj
    rw [List.getElem?_replicate, if_pos hj] at hv
    obtain rfl := Option.some.inj hv
    exact h.cell j hj, fun j hj => h.mark j (by simpa using hj)⟩
/-- The first j of a row of n are laid. -/
theorem fill_set (T : List Value) (n j : Nat) (z v : Value) (hl : T.length = n) (hv : T[j]? = some v) : (T.take j ++ List.replicate (n - j) z).set j v = T.take (j + 1) ++ List.replicate (n - (j + 1)) z := by
  obtain ⟨hj, rfl⟩ := List.getElem?_eq_some_iff.1 hv
  have h1 : (T.take j).length = j := by rw [List.length_take]; omega
  rw [List.set_append_right _ _ (by omega), h1, Nat.sub_self, show n - j = (n - (j + 1)) + 1 by omega, List.replicate_succ, List.set_cons_zero, List.take_succ_eq_append_getElem hj, List.append_assoc]; rfl

end Go.Proofs.Ytcdhanfjcnfjjaa
end
section
/- Package span and its specification: contracts of the looks (Width, Middle, Greatest, Proved), of Make and Point, over this seat's translation. -/
namespace Go.Proofs.Ytcdhanfjcnfjjaa
set_option linter.unusedVariables false
set_option linter.unusedSimpArgs false
open Go.RowKit

def provedL (a b : Int) : Int := if vld a b = true then max a (min b 0) else 0
def makeL (m n : Int) : Int × Int × Int := if vld (min m n) (max m n) = true then (min m n, max m n, 0) else (0, 0, 9)

theorem ret_int {k : IntKind} {a b : Int} (h : a = b) : Ending.returned (.int k a) = .returned (.int k b) := by rw [h]

set_option maxHeartbeats 400000 in
theorem proved_any (a b : Int) (w : World) :
    Calls Try.prog 39 #[Sp a b] w (Ret (.int .i64 (provedL a b)) w) := by
  by_cases hv : vld a b = true
  · obtain ⟨h1, h2, h3⟩ := vld_iff.1 hv
    go_enter Try.func39, Try.ntmps39
    go_wp2_with (go_at_call 43; refine (valid_any _ _ _).mono ?_; rintro e w1 ⟨rfl, hb⟩; have hB : Below w.heap.size w w1 := Below.trans (by (with_reducible repeat first | exact Below.refl _ _ | assumption | ((first | refine Below.setCell ?_ ?_ _ | refine Below.alloc ?_ ?_ _); rotate_left; exact (by first | omega | (simp; done) | (simp; omega))) | refine Below.drew ?_ | refine Below_drewN ?_ _)) (hb.mono (by first | omega | (simp; done) | (simp; omega))); obtain ⟨hc, hf⟩ := bcell hb; have hs := hb.size; clear hb; (try simp only [World.size_alloc, World.size_setCell] at hc hf); (try simp only [World.size_alloc, World.size_setCell] at hs); (try have hs' := Nat.lt_of_succ_le hs); (try have hs0 : w.heap.size < w1.heap.size := by omega); (try have hs1 : w.heap.size + 1 < w1.heap.size := by omega); (try have hs2 : w.heap.size + 1 + 1 < w1.heap.size := by omega); (try have hs3 : w.heap.size + 1 + 1 + 1 < w1.heap.size := by omega))
    all_goals go_ret
    all_goals refine ⟨ret_int ?_, by (with_reducible repeat first | exact Below.refl _ _ | assumption | ((first | refine Below.setCell ?_ ?_ _ | refine Below.alloc ?_ ?_ _); rotate_left; exact (by first | omega | (simp; done) | (simp; omega))) | refine Below.drew ?_ | refine Below_drewN ?_ _)⟩
    all_goals (simp [provedL, hv]; omega)
  · go_enter Try.func39, Try.ntmps39
    go_wp2_with (go_at_call 43; refine (valid_any _ _ _).mono ?_; rintro e w1 ⟨rfl, hb⟩; have hB : Below w.heap.size w w1 := Below.trans (by (with_reducible repeat first | exact Below.refl _ _ | assumption | ((first | refine Below.setCell ?_ ?_ _ | refine Below.alloc ?_ ?_ _); rotate_left; exact (by first | omega | (simp; done) | (simp; omega))) | refine Below.drew ?_ | refine Below_drewN ?_ _)) (hb.mono (by first | omega | (simp; done) | (simp; omega))); obtain ⟨hc, hf⟩ := bcell hb; have hs := hb.size; clear hb; (try simp only [World.size_alloc, World.size_setCell] at hc hf); (try simp only [World.size_alloc, World.size_setCell] at hs); (try have hs' := Nat.lt_of_succ_le hs); (try have hs0 : w.heap.size < w1.heap.size := by omega); (try have hs1 : w.heap.size + 1 < w1.heap.size := by omega); (try have hs2 : w.heap.size + 1 + 1 < w1.heap.size := by omega); (try have hs3 : w.heap.size + 1 + 1 + 1 < w1.heap.size := by omega))
    go_ret
    exact ⟨ret_int (by simp [provedL, hv]), by (with_reducible repeat first | exact Below.refl _ _ | assumption | ((first | refine Below.setCell ?_ ?_ _ | refine Below.alloc ?_ ?_ _); rotate_left; exact (by first | omega | (simp; done) | (simp; omega))) | refine Below.drew ?_ | refine Below_drewN ?_ _)⟩

set_option maxHeartbeats 400000 in
theorem make_any (m n : Int) (w : World) :
    Calls Try.prog 94 #[.int .i64 m, .int .i64 n] w (Ret (.tuple #[.agg #[.int .i64 (makeL m n).1, .int .i64 (makeL m n).2.1], .int .i64 (makeL m n).2.2]) w) := by
  rcases Int.lt_trichotomy m n with h | h | h
  · by_cases hv : vld m n = true
    · have e : makeL m n = (m, n, 0) := by unfold makeL; rw [show min m n = m by omega, show max m n = n by omega, if_pos hv]
      rw [e]
      clear e
      go_enter Try.func94, Try.ntmps94
      go_wp2_with (go_at_call 43; refine (valid_any _ _ _).mono ?_; rintro e w1 ⟨rfl, hb⟩; have hB : Below w.heap.size w w1 := Below.trans (by (with_reducible repeat first | exact Below.refl _ _ | assumption | ((first | refine Below.setCell ?_ ?_ _ | refine Below.alloc ?_ ?_ _); rotate_left; exact (by first | omega | (simp; done) | (simp; omega))) | refine Below.drew ?_ | refine Below_drewN ?_ _)) (hb.mono (by first | omega | (simp; done) | (simp; omega))); obtain ⟨hc, hf⟩ := bcell hb; have hs := hb.size; clear hb; (try simp only [World.size_alloc, World.size_setCell] at hc hf); (try simp only [World.size_alloc, World.size_setCell] at hs); (try have hs' := Nat.lt_of_succ_le hs); (try have hs0 : w.heap.size < w1.heap.size := by omega); (try have hs1 : w.heap.size + 1 < w1.heap.size := by omega); (try have hs2 : w.heap.size + 1 + 1 < w1.heap.size := by omega); (try have hs3 : w.heap.size + 1 + 1 + 1 < w1.heap.size := by omega))
      exact bodyPost_ret (res3 Try.results94 _ _ _ _ _ _ rfl rfl (by go_simp) (by go_simp)) rfl ⟨rfl, by (with_reducible repeat first | exact Below.refl _ _ | assumption | ((first | refine Below.setCell ?_ ?_ _ | refine Below.alloc ?_ ?_ _); rotate_left; exact (by first | omega | (simp; done) | (simp; omega))) | refine Below.drew ?_ | refine Below_drewN ?_ _)⟩
    · have e : makeL m n = (0, 0, 9) := by unfold makeL; rw [show min m n = m by omega, show max m n = n by omega, if_neg hv]
      rw [e]
      clear e
      go_enter Try.func94, Try.ntmps94
      go_wp2_with (go_at_call 43; refine (valid_any _ _ _).mono ?_; rintro e w1 ⟨rfl, hb⟩; have hB : Below w.heap.size w w1 := Below.trans (by (with_reducible repeat first | exact Below.refl _ _ | assumption | ((first | refine Below.setCell ?_ ?_ _ | refine Below.alloc ?_ ?_ _); rotate_left; exact (by first | omega | (simp; done) | (simp; omega))) | refine Below.drew ?_ | refine Below_drewN ?_ _)) (hb.mono (by first | omega | (simp; done) | (simp; omega))); obtain ⟨hc, hf⟩ := bcell hb; have hs := hb.size; clear hb; (try simp only [World.size_alloc, World.size_setCell] at hc hf); (try simp only [World.size_alloc, World.size_setCell] at hs); (try have hs' := Nat.lt_of_succ_le hs); (try have hs0 : w.heap.size < w1.heap.size := by omega); (try have hs1 : w.heap.size + 1 < w1.heap.size := by omega); (try have hs2 : w.heap.size + 1 + 1 < w1.heap.size := by omega); (try have hs3 : w.heap.size + 1 + 1 + 1 < w1.heap.size := by omega))
      exact bodyPost_ret (res3 Try.results94 _ _ _ _ _ _ rfl rfl (by go_simp) (by go_simp)) rfl ⟨rfl, by (with_reducible repeat first | exact Below.refl _ _ | assumption | ((first | refine Below.setCell ?_ ?_ _ | refine Below.alloc ?_ ?_ _); rotate_left; exact (by first | omega | (simp; done) | (simp; omega))) | refine Below.drew ?_ | refine Below_drewN ?_ _)⟩
  · subst h
    by_cases hv : vld m m = true
    · have e : makeL m m = (m, m, 0) := by unfold makeL; rw [show min m m = m by omega, show max m m = m by omega, if_pos hv]
      rw [e]
      clear e
      go_enter Try.func94, Try.ntmps94
      go_wp2_with (go_at_call 43; refine (valid_any _ _ _).mono ?_; rintro e w1 ⟨rfl, hb⟩; have hB : Below w.heap.size w w1 := Below.trans (by (with_reducible repeat first | exact Below.refl _ _ | assumption | ((first | refine Below.setCell ?_ ?_ _ | refine Below.alloc ?_ ?_ _); rotate_left; exact (by first | omega | (simp; done) | (simp; omega))) | refine Below.drew ?_ | refine Below_drewN ?_ _)) (hb.mono (by first | omega | (simp; done) | (simp; omega))); obtain ⟨hc, hf⟩ := bcell hb; have hs := hb.size; clear hb; (try simp only [World.size_alloc, World.size_setCell] at hc hf); (try simp only [World.size_alloc, World.size_setCell] at hs); (try have hs' := Nat.lt_of_succ_le hs); (try have hs0 : w.heap.size < w1.heap.size := by omega); (try have hs1 : w.heap.size + 1 < w1.heap.size := by omega); (try have hs2 : w.heap.size + 1 + 1 < w1.heap.size := by omega); (try have hs3 : w.heap.size + 1 + 1 + 1 < w1.heap.size := by omega))
      exact bodyPost_ret (res3 Try.results94 _ _ _ _ _ _ rfl rfl (by go_simp) (by go_simp)) rfl ⟨rfl, by (with_reducible repeat first | exact Below.refl _ _ | assumption | ((first | refine Below.setCell ?_ ?_ _ | refine Below.alloc ?_ ?_ _); rotate_left; exact (by first | omega | (simp; done) | (simp; omega))) | refine Below.drew ?_ | refine Below_drewN ?_ _)⟩
    · have e : makeL m m = (0, 0, 9) := by unfold makeL; rw [show min m m = m by omega, show max m m = m by omega, if_neg hv]
      rw [e]
      clear e
      go_enter Try.func94, Try.ntmps94
      go_wp2_with (go_at_call 43; refine (valid_any _ _ _).mono ?_; rintro e w1 ⟨rfl, hb⟩; have hB : Below w.heap.size w w1 := Below.trans (by (with_reducible repeat first | exact Below.refl _ _ | assumption | ((first | refine Below.setCell ?_ ?_ _ | refine Below.alloc ?_ ?_ _); rotate_left; exact (by first | omega | (simp; done) | (simp; omega))) | refine Below.drew ?_ | refine Below_drewN ?_ _)) (hb.mono (by first | omega | (simp; done) | (simp; omega))); obtain ⟨hc, hf⟩ := bcell hb; have hs := hb.size; clear hb; (try simp only [World.size_alloc, World.size_setCell] at hc hf); (try simp only [World.size_alloc, World.size_setCell] at hs); (try have hs' := Nat.lt_of_succ_le hs); (try have hs0 : w.heap.size < w1.heap.size := by omega); (try have hs1 : w.heap.size + 1 < w1.heap.size := by omega); (try have hs2 : w.heap.size + 1 + 1 < w1.heap.size := by omega); (try have hs3 : w.heap.size + 1 + 1 + 1 < w1.heap.size := by omega))
      exact bodyPost_ret (res3 Try.results94 _ _ _ _ _ _ rfl rfl (by go_simp) (by go_simp)) rfl ⟨rfl, by (with_reducible repeat first | exact Below.refl _ _ | assumption | ((first | refine Below.setCell ?_ ?_ _ | refine Below.alloc ?_ ?_ _); rotate_left; exact (by first | omega | (simp; done) | (simp; omega))) | refine Below.drew ?_ | refine Below_drewN ?_ _)⟩
  · by_cases hv : vld n m = true
    · have e : makeL m n = (n, m, 0) := by unfold makeL; rw [show min m n = n by omega, show max m n = m by omega, if_pos hv]
      rw [e]
      clear e
      go_enter Try.func94, Try.ntmps94
      go_wp2_with (go_at_call 43; refine (valid_any _ _ _).mono ?_; rintro e w1 ⟨rfl, hb⟩; have hB : Below w.heap.size w w1 := Below.trans (by (with_reducible repeat first | exact Below.refl _ _ | assumption | ((first | refine Below.setCell ?_ ?_ _ | refine Below.alloc ?_ ?_ _); rotate_left; exact (by first | omega | (simp; done) | (simp; omega))) | refine Below.drew ?_ | refine Below_drewN ?_ _)) (hb.mono (by first | omega | (simp; done) | (simp; omega))); obtain ⟨hc, hf⟩ := bcell hb; have hs := hb.size; clear hb; (try simp only [World.size_alloc, World.size_setCell] at hc hf); (try simp only [World.size_alloc, World.size_setCell] at hs); (try have hs' := Nat.lt_of_succ_le hs); (try have hs0 : w.heap.size < w1.heap.size := by omega); (try have hs1 : w.heap.size + 1 < w1.heap.size := by omega); (try have hs2 : w.heap.size + 1 + 1 < w1.heap.size := by omega); (try have hs3 : w.heap.size + 1 + 1 + 1 < w1.heap.size := by omega))
      exact bodyPost_ret (res3 Try.results94 _ _ _ _ _ _ rfl rfl (by go_simp) (by go_simp)) rfl ⟨rfl, by (with_reducible repeat first | exact Below.refl _ _ | assumption | ((first | refine Below.setCell ?_ ?_ _ | refine Below.alloc ?_ ?_ _); rotate_left; exact (by first | omega | (simp; done) | (simp; omega))) | refine Below.drew ?_ | refine Below_drewN ?_ _)⟩
    · have e : makeL m n = (0, 0, 9) := by unfold makeL; rw [show min m n = n by omega, show max m n = m by omega, if_neg hv]
      rw [e]
      clear e
      go_enter Try.func94, Try.ntmps94
      go_wp2_with (go_at_call 43; refine (valid_any _ _ _).mono ?_; rintro e w1 ⟨rfl, hb⟩; have hB : Below w.heap.size w w1 := Below.trans (by (with_reducible repeat first | exact Below.refl _ _ | assumption | ((first | refine Below.setCell ?_ ?_ _ | refine Below.alloc ?_ ?_ _); rotate_left; exact (by first | omega | (simp; done) | (simp; omega))) | refine Below.drew ?_ | refine Below_drewN ?_ _)) (hb.mono (by first | omega | (simp; done) | (simp; omega))); obtain ⟨hc, hf⟩ := bcell hb; have hs := hb.size; clear hb; (try simp only [World.size_alloc, World.size_setCell] at hc hf); (try simp only [World.size_alloc, World.size_setCell] at hs); (try have hs' := Nat.lt_of_succ_le hs); (try have hs0 : w.heap.size < w1.heap.size := by omega); (try have hs1 : w.heap.size + 1 < w1.heap.size := by omega); (try have hs2 : w.heap.size + 1 + 1 < w1.heap.size := by omega); (try have hs3 : w.heap.size + 1 + 1 + 1 < w1.heap.size := by omega))
      exact bodyPost_ret (res3 Try.results94 _ _ _ _ _ _ rfl rfl (by go_simp) (by go_simp)) rfl ⟨rfl, by (with_reducible repeat first | exact Below.refl _ _ | assumption | ((first | refine Below.setCell ?_ ?_ _ | refine Below.alloc ?_ ?_ _); rotate_left; exact (by first | omega | (simp; done) | (simp; omega))) | refine Below.drew ?_ | refine Below_drewN ?_ _)⟩

end Go.Proofs.Ytcdhanfjcnfjjaa
end
section
/- Plain arithmetic of two's complement numbers of 128 bits; it imports nothing of the program. -/
namespace Go.Proofs.Ytcdhanfjcnfjjaa
set_option linter.unusedVariables false
set_option linter.unusedSimpArgs false

/-- The high and the low half of a number in two's complement of 128 bits. -/
def hi64 (z : Int) : Int := z / 18446744073709551616 % 18446744073709551616
def lo64 (z : Int) : Int := z % 18446744073709551616
/-- z is far from the ends of 128 bits. -/
def Fit (z : Int) : Prop := -10000000000000000000000000000000000 ≤ z ∧ z ≤ 10000000000000000000000000000000000
theorem number_hi (n : Int) (h1 : -9223372036854775808 ≤ n) (h2 : n ≤ 9223372036854775807) : n / 9223372036854775808 % 18446744073709551616 = hi64 n := by unfold hi64; omega
theorem number_lo (n : Int) : n % 18446744073709551616 = lo64 n := rfl
/-- x as a number with a sign. -/
def sgn64 (x : Int) : Int := (x + 9223372036854775808) % 18446744073709551616 - 9223372036854775808
theorem sgn_hi (z : Int) (h : Fit z) : sgn64 (hi64 z) = z / 18446744073709551616 := by unfold Fit at h; unfold sgn64 hi64; omega
theorem sgn_lo (n : Int) (h1 : -9223372036854775808 ≤ n) (h2 : n ≤ 9223372036854775807) : sgn64 (lo64 n) = n := by unfold sgn64 lo64; omega
theorem below_ne (y z : Int) (hy : Fit y) (hz : Fit z) (h : hi64 y ≠ hi64 z) : sgn64 (hi64 y) < sgn64 (hi64 z) ↔ y < z := by
  rw [sgn_hi y hy, sgn_hi z hz]; unfold Fit at hy hz; unfold hi64 at h; omega
theorem below_eq (y z : Int) (hy : Fit y) (hz : Fit z) (h : hi64 y = hi64 z) : lo64 y < lo64 z ↔ y < z := by
  unfold Fit at hy hz; unfold hi64 at h; unfold lo64; omega
theorem same_iff (y z : Int) (hy : Fit y) (hz : Fit z) : (hi64 y = hi64 z ∧ lo64 y = lo64 z) ↔ y = z := by
  unfold Fit at hy hz; unfold hi64 lo64; constructor
  · intro h; omega
  · intro h; rw [h]; exact ⟨rfl, rfl⟩
theorem sgn_range (x : Int) : -9223372036854775808 ≤ sgn64 x ∧ sgn64 x ≤ 9223372036854775807 := by unfold sgn64; omega
/-- A quotient rounded down, and rounded up. -/
def flo (x d : Int) : Int := if 0 < d then x / d else (-x) / (-d)
def cei (x d : Int) : Int := -(flo (-x) d)

end Go.Proofs.Ytcdhanfjcnfjjaa
end
