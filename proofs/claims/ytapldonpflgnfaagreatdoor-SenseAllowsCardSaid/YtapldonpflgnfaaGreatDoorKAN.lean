import Derived.Test.YtapldonpflgnfaaGreatDoorKAI
import Derived.Test.YtapldonpflgnfaaGreatDoorKAJ
import Derived.Test.YtapldonpflgnfaaGreatDoorKAK
import Derived.Test.YtapldonpflgnfaaGreatDoorKAM
import Derived.Test.YtapldonpflgnfaaGreatDoorRows
import Derived.KernelRfl
import Derived.Laws.StructEq
import Derived.RangeFuncNested
import Derived.RangeFuncBound
import Derived.RangeFuncCalls
import Derived.RangeFuncLeaves
import Derived.Shelf.Abstract
import Derived.Shelf.RegionOpen
import Derived.WalkKit
import Derived.OwnWalkIn
import Derived.TacticsInMore
import Derived.LoopNIn
import Derived.LoopIn
namespace Go.Proofs.YtapldonpflgnfaaGreatDoor
set_option linter.unusedVariables false
set_option linter.unusedSimpArgs false
section
open Go.RowKit Go.Shelf
set_option maxHeartbeats 1000000 in
theorem allWithin1_any (x a b : Int) (c0 c1 : Nat) (w : World) (h0 : w.cell? ⟨c0, 0, none⟩ = some (.int .i64 a)) (h1 : w.cell? ⟨c1, 0, none⟩ = some (.int .i64 b)) :
    Calls Tryz.prog 140 #[intV x, .pointer (some ⟨c0, 0, none⟩), .pointer (some ⟨c1, 0, none⟩)] w (Ret (.bool (!wthn x a b)) w) := by
  go_enter Tryz.func140, Tryz.ntmps140
  go_wp2_with (go_at_call 101; refine (mwithin_any _ _ _ _).mono ?_; rintro e w1 ⟨rfl, rfl⟩)
  go_ret
  exact ⟨rfl, by (repeat with_reducible exact Below.refl _ _)⟩
def allW (l : List Int) (a b : Int) : Bool := l.all fun x => wthn x a b
theorem not_any_allW (l : List Int) (a b : Int) : (!(l.any fun x => !wthn x a b)) = allW l a b := by
  unfold allW
  induction l with
  | nil => rfl
  | cons x r ih => simp only [List.any_cons, List.all_cons, Bool.not_or, Bool.not_not, ih]
set_option maxHeartbeats 1000000 in
theorem allWithin_any (A : Option Addr) (len cap : Nat) (zs : List Int) (a b : Int) (w : World) (hI : IsT 1 intCells w A len zs) (hl : len ≤ 1000000000000000) :
    Calls Tryz.prog 95 #[.slice A len cap, .int .i64 a, .int .i64 b] w (Ret (.bool (allW zs a b)) w) := by
  have HE := Lib.hid (not_any_allW zs a b)
  have HC := Lib.hid (fun W (hb : Below w.heap.size w W) (h0 : w.heap.size + 1 < W.heap.size) (h1 : W.cell? ⟨w.heap.size, 0, none⟩ = some (.int .i64 a)) (h2 : W.cell? ⟨w.heap.size + 1, 0, none⟩ = some (.int .i64 b)) =>
    containsint2 140 w.heap.size (w.heap.size + 1) (fun x => !wthn x a b) A len cap zs W (hI.below hb) hl (fun args W => enters_of Tryz.func140 (by kernel_rfl) rfl args W)
      (fun x W' _ hB => allWithin1_any x a b _ _ W' ((hB.cell (p := ⟨w.heap.size, 0, none⟩) (by show w.heap.size < _; omega)).trans h1) ((hB.cell (p := ⟨w.heap.size + 1, 0, none⟩) (by show w.heap.size + 1 < _; omega)).trans h2)))
  clear hI
  generalize allW zs a b = G at *
  generalize (zs.any fun x => !wthn x a b) = K at *
  go_enter Tryz.func95, Tryz.ntmps95
  go_wp2_with (go_at_call 139; refine (HC.out _ (by (repeat first | with_reducible exact Below.refl _ _ | (with_reducible refine Below.alloc ?_ ?_ _; rotate_left; exact (by first | omega | (simp; done))))) (by ((try simp only [World.size_alloc, World.size_setCell, size_drew, size_drewN]); omega)) (by go_simp) (by go_simp)).mono ?_; rintro e w1 ⟨rfl, hb⟩)
  go_ret
  exact ⟨by rw [← HE.out]; rfl, Below.trans (by (repeat first | with_reducible exact Below.refl _ _ | (with_reducible refine Below.alloc ?_ ?_ _; rotate_left; exact (by first | omega | (simp; done))))) (hb.mono (by ((try simp only [World.size_alloc, World.size_setCell, size_drew, size_drewN]); omega)))⟩
def tot (s : Int) : List Int → Int
  | [] => s
  | x :: r => tot (wrap64 (s + x)) r
theorem tot_drop {l : List Int} {k : Nat} {x : Int} (h : l[k]? = some x) (s : Int) : tot s (l.drop k) = tot (wrap64 (s + x)) (l.drop (k + 1)) := by
  obtain ⟨hk, rfl⟩ := List.getElem?_eq_some_iff.1 h
  rw [List.drop_eq_getElem_cons hk]; rfl
structure CurR where
  (A B C : Option Addr) (la ca lb cb lc cc : Nat)
structure CurD where
  (coils shells plasma : List Int)
abbrev CurR.v (R : CurR) : Value := .agg #[.slice R.A R.la R.ca, .slice R.B R.lb R.cb, .slice R.C R.lc R.cc]
structure IsC (w : World) (R : CurR) (C : CurD) : Prop where
  coils : IsT 1 intCells w R.A R.la C.coils
  shells : IsT 1 intCells w R.B R.lb C.shells
  plasma : IsT 1 intCells w R.C R.lc C.plasma
  la : R.la ≤ R.ca
  lb : R.lb ≤ R.cb
  lc : R.lc ≤ R.cc
  ca : R.ca ≤ 9223372036854775807
  cb : R.cb ≤ 9223372036854775807
  cc : R.cc ≤ 9223372036854775807
  ka : R.la ≤ 1000000000000000
  kb : R.lb ≤ 1000000000000000
  kc : R.lc ≤ 1000000000000000
theorem IsC.below {w w1 : World} {R : CurR} {C : CurD} (h : IsC w R C) (hb : Below w.heap.size w w1) : IsC w1 R C :=
  ⟨h.coils.below hb, h.shells.below hb, h.plasma.below hb, h.la, h.lb, h.lc, h.ca, h.cb, h.cc, h.ka, h.kb, h.kc⟩
set_option maxHeartbeats 1000000 in
theorem total_any (A B C : Option Addr) (la ca lb cb len cap : Nat) (zs : List Int) (w : World) (hI : IsT 1 intCells w C len zs) (hl : len ≤ 1000000000000000) :
    Calls Tryz.prog 97 #[.agg #[.slice A la ca, .slice B lb cb, .slice C len cap]] w (Ret (.int .i64 (tot 0 zs)) w) := by
  have HI := Lib.hid hI
  obtain ⟨G, hG0⟩ : ∃ G, tot 0 zs = G := ⟨_, rfl⟩
  have HG := Lib.hid hG0
  rw [hG0]
  clear hG0 hI
  go_enter Tryz.func97, Tryz.ntmps97
  go_wp2_with fail
  go_loopw [3, 5, 9] (fun s _ i wr => ∃ (j : Nat) (t : Int), j ≤ len ∧ i = .int .i64 j ∧ s = .int .i64 t ∧ Hid (tot t (zs.drop j) = G) ∧ Below w.heap.size w wr) (fun _ _ i _ => len - (intOf i).toNat)
  case atStart => exact ⟨0, 0, Nat.zero_le _, rfl, rfl, Lib.hid HG.out, by (repeat first | with_reducible exact Below.refl _ _ | (with_reducible refine Below.alloc ?_ ?_ _; rotate_left; exact (by omega)))⟩
  case round =>
    obtain ⟨j, t, hj, rfl, rfl, hG, hB⟩ := hrel
    by_cases hlt : j < len
    · obtain ⟨hzl, hcl⟩ := HI.out.below hB
      obtain ⟨b, o, rfl, hb0, hcl⟩ := hcl (by omega)
      obtain ⟨x, hx⟩ : ∃ x, zs[j]? = some x := ⟨_, List.getElem?_eq_getElem (by omega)⟩
      have HN := Lib.hid ((tot_drop hx t).symm.trans hG.out)
      have x0 : wr.cell? ⟨b, o + j, none⟩ = some (.int .i64 x) := by have h := hcl j x hx 0 _ rfl; simpa using h
      clear hcl hx hzl
      go_wp2_with fail
      go_roundw
      case rel => exact ⟨j + 1, _, by omega, by go_num, rfl, HN, hB⟩
      case measure => simp [intOf]; omega
    · have HN : Hid (t = G) := Lib.hid (by rw [← hG.out, List.drop_of_length_le (by rw [HI.out.1]; omega)]; rfl)
      go_wp2
      go_ret
      exact ⟨by rw [← HN.out]; rfl, hB⟩
def validC (M : MachD) (C : CurD) : Bool :=
  decide (checkC M = 0) && (decide (C.coils.length = M.coils.length) && (allW C.coils (-1000000) 1000000 && (decide (C.shells.length = M.shells.length) && (allW C.shells (-1000000) 1000000 &&
    (decide ((C.plasma.length : Int) = M.grid.nr * M.grid.nz) && (allW C.plasma 0 1000000 && decide (tot 0 C.plasma ≤ 1000000)))))))
end
section
open Go.RowKit
theorem rng_zero {b : Bool} (h : rng b = 0) : b = true := by unfold rng at h; split at h <;> simp_all
theorem orL_zero {x : Int} {r : List Int} (h : orL (x :: r) = 0) : x = 0 ∧ orL r = 0 := by
  have : (if x = 0 then orL r else x) = 0 := h
  split at this
  · exact ⟨‹_›, this⟩
  · exact absurd this ‹_›
theorem grid_of {M : MachD} (h : checkC M = 0) : gridC M.grid = 0 := (orL_zero (orL_zero (orL_zero (orL_zero (orL_zero h).2).2).2).2).1
theorem fine_grid {g : GridD} (h : gridC g = 0) : g.Fine := by
  unfold gridC at h
  split at h
  · split at h
    · exact fine_of ‹_› ‹_›
    · cases h
  · cases h
theorem cells_fine {g : GridD} (h : g.Fine) : 1 ≤ g.nr * g.nz ∧ g.nr * g.nz ≤ 64 := by
  have hp := mul_small (x := 8) (y := 8) (show 0 ≤ g.nr by have := h.n0; omega) h.n1 (show 0 ≤ g.nz by have := h.k0; omega) h.k1
  have h3 := Int.mul_le_mul h.n0 h.k0 (by omega) (show 0 ≤ g.nr by have := h.n0; omega)
  omega
theorem int_eq (a b : Nat) : (((a : Int) == b) = decide (a = b)) := by
  by_cases h : a = b
  · subst h; simp
  · rw [decide_eq_false h, beq_eq_false_iff_ne]; omega
set_option maxRecDepth 100000 in
theorem validCurrents_any (R : MachR) (M : MachD) (Q : CurR) (C : CurD) (w : World) (hM : IsM w R M) (hC : IsC w Q C) : Calls Tryz.prog 56 #[(.agg (machCells R M)), Q.v] w (Ret (.bool (validC M C)) w) := by
  have la := hM.coils.1
  have lb := hM.shells.1
  have na := hC.coils.1
  have nb := hC.shells.1
  have nc := hC.plasma.1
  refine calls_ax (vs := [(.agg (machCells R M)), Q.v]) Tryz.func56 rfl rfl ?_
  refine ac_seq (ac_region ?_)
  refine al_new (fun b => .pointer (some ⟨b, 0, none⟩)) (r_box rfl rfl) rfl rfl rfl ?_
  intro b1
  refine al_new (fun b => .pointer (some ⟨b, 0, none⟩)) (r_box rfl rfl) rfl rfl rfl ?_
  intro b2
  refine al_p (q_assign rfl) ?_
  refine al_end (aq_then ?_)
  refine ac_seq ?_
  refine ac_draw 50 (by kernel_rfl) (by kernel_rfl) ?_
  refine ah_t 0 (fun w9 hs => hs) rfl rfl (by kernel_rfl) (q_loadAll (i := 1) rfl rfl Tryz.isAgg29 Tryz.sizeOf29 rfl) ?_
  refine ah_one 1 rfl (by kernel_rfl) (fun hok1 hcl1 => ?_)
  refine al_call Tryz.call84 (.cons rfl .nil) rfl rfl (fun w1 hs1 => ?_)
  refine (check_any R M _ (hM.below hs1.below)).mono ?_
  rintro e u1 ⟨rfl, hb_1⟩
  refine ⟨_, rfl, hb_1, ?_⟩
  clear hs1
  refine al_end (ah_back hok1 hcl1 (fun w9 hs => (hs.fewer 1 rfl)) ?_)
  refine ah_t 2 (fun w9 hs => (hs.fewer 1 rfl)) rfl rfl (by kernel_rfl) (q_eql rfl rfl) ?_
  refine ah_t 3 (fun w9 hs => (hs.fewer 1 rfl)) rfl rfl (by kernel_rfl) (q_move rfl) ?_
  refine ah_split 8 rfl (fun hb1 => ?_) (fun hb1 => ?_)
  · have q1 : checkC M = 0 := of_decide_eq_true hb1
    have hcf := cells_fine (fine_grid (grid_of q1))
    refine ah_t 4 (fun w9 hs => (hs.fewer 1 rfl)) rfl rfl (by kernel_rfl) (q_fieldAddr 0 rfl Tryz.runUnderlying32 rfl Tryz.sizeOf30 (by decide) rfl) ?_
    refine ah_t 5 (fun w9 hs => (hs.fewer 1 rfl)) rfl rfl (by kernel_rfl) (q_load (i := 0) rfl rfl rfl Tryz.isAgg30) ?_
    refine ah_t 6 (fun w9 hs => (hs.fewer 1 rfl)) rfl rfl (by kernel_rfl) (q_lenS rfl Tryz.runUnderlying30) ?_
    refine ah_t 7 (fun w9 hs => (hs.fewer 1 rfl)) rfl rfl (by kernel_rfl) (q_fieldAddr 1 rfl Tryz.runUnderlying29 rfl Tryz.sizeOf22 (by decide) rfl) ?_
    refine ah_t 8 (fun w9 hs => (hs.fewer 1 rfl)) rfl rfl (by kernel_rfl) (q_load (i := 1) rfl rfl rfl Tryz.isAgg22) ?_
    refine ah_t 9 (fun w9 hs => (hs.fewer 1 rfl)) rfl rfl (by kernel_rfl) (q_lenS rfl Tryz.runUnderlying22) ?_
    refine ah_t 10 (fun w9 hs => (hs.fewer 1 rfl)) rfl rfl (by kernel_rfl) (q_eql rfl rfl) ?_
    refine ah_t 11 (fun w9 hs => (hs.fewer 1 rfl)) rfl rfl (by kernel_rfl) (q_pickT rfl rfl) ?_
    refine ah_t 12 (fun w9 hs => (hs.fewer 1 rfl)) rfl rfl (by kernel_rfl) (q_move rfl) ?_
    refine ah_split 17 rfl (fun hb2 => ?_) (fun hb2 => ?_)
    · have q2 : Q.la = R.la := by have := of_decide_eq_true hb2; omega
      refine ah_t 13 (fun w9 hs => (hs.fewer 1 rfl)) rfl rfl (by kernel_rfl) (q_fieldAddr 0 rfl Tryz.runUnderlying32 rfl Tryz.sizeOf30 (by decide) rfl) ?_
      refine ah_t 14 (fun w9 hs => (hs.fewer 1 rfl)) rfl rfl (by kernel_rfl) (q_load (i := 0) rfl rfl rfl Tryz.isAgg30) ?_
      refine ah_one 15 rfl (by kernel_rfl) (fun hok2 hcl2 => ?_)
      refine al_call Tryz.call95 (.cons rfl (.cons rfl (.cons rfl .nil))) rfl rfl (fun w2 hs2 => ?_)
      refine (allWithin_any Q.A Q.la Q.ca C.coils (-1000000) 1000000 _ (hC.coils.below hs2.below) hC.ka).mono ?_
      rintro e u2 ⟨rfl, hb_2⟩
      refine ⟨_, rfl, hb_2, ?_⟩
      clear hs2
      refine al_end (ah_back hok2 hcl2 (fun w9 hs => (hs.fewer 2 rfl)) ?_)
      refine ah_t 16 (fun w9 hs => (hs.fewer 2 rfl)) rfl rfl (by kernel_rfl) (q_pickT rfl rfl) ?_
      refine ah_t 17 (fun w9 hs => (hs.fewer 2 rfl)) rfl rfl (by kernel_rfl) (q_move rfl) ?_
      refine ah_split 22 rfl (fun hb3 => ?_) (fun hb3 => ?_)
      · have q3 := hb3
        refine ah_t 18 (fun w9 hs => (hs.fewer 2 rfl)) rfl rfl (by kernel_rfl) (q_fieldAddr 1 rfl Tryz.runUnderlying32 rfl Tryz.sizeOf30 (by decide) rfl) ?_
        refine ah_t 19 (fun w9 hs => (hs.fewer 2 rfl)) rfl rfl (by kernel_rfl) (q_load (i := 0) rfl rfl rfl Tryz.isAgg30) ?_
        refine ah_t 20 (fun w9 hs => (hs.fewer 2 rfl)) rfl rfl (by kernel_rfl) (q_lenS rfl Tryz.runUnderlying30) ?_
        refine ah_t 21 (fun w9 hs => (hs.fewer 2 rfl)) rfl rfl (by kernel_rfl) (q_fieldAddr 2 rfl Tryz.runUnderlying29 rfl Tryz.sizeOf23 (by decide) rfl) ?_
        refine ah_t 22 (fun w9 hs => (hs.fewer 2 rfl)) rfl rfl (by kernel_rfl) (q_load (i := 1) rfl rfl rfl Tryz.isAgg23) ?_
        refine ah_t 23 (fun w9 hs => (hs.fewer 2 rfl)) rfl rfl (by kernel_rfl) (q_lenS rfl Tryz.runUnderlying23) ?_
        refine ah_t 24 (fun w9 hs => (hs.fewer 2 rfl)) rfl rfl (by kernel_rfl) (q_eql rfl rfl) ?_
        refine ah_t 25 (fun w9 hs => (hs.fewer 2 rfl)) rfl rfl (by kernel_rfl) (q_pickT rfl rfl) ?_
        refine ah_t 26 (fun w9 hs => (hs.fewer 2 rfl)) rfl rfl (by kernel_rfl) (q_move rfl) ?_
        refine ah_split 31 rfl (fun hb4 => ?_) (fun hb4 => ?_)
        · have q4 : Q.lb = R.lb := by have := of_decide_eq_true hb4; omega
          refine ah_t 27 (fun w9 hs => (hs.fewer 2 rfl)) rfl rfl (by kernel_rfl) (q_fieldAddr 1 rfl Tryz.runUnderlying32 rfl Tryz.sizeOf30 (by decide) rfl) ?_
          refine ah_t 28 (fun w9 hs => (hs.fewer 2 rfl)) rfl rfl (by kernel_rfl) (q_load (i := 0) rfl rfl rfl Tryz.isAgg30) ?_
          refine ah_one 29 rfl (by kernel_rfl) (fun hok3 hcl3 => ?_)
          refine al_call Tryz.call95 (.cons rfl (.cons rfl (.cons rfl .nil))) rfl rfl (fun w3 hs3 => ?_)
          refine (allWithin_any Q.B Q.lb Q.cb C.shells (-1000000) 1000000 _ (hC.shells.below hs3.below) hC.kb).mono ?_
          rintro e u3 ⟨rfl, hb_3⟩
          refine ⟨_, rfl, hb_3, ?_⟩
          clear hs3
          refine al_end (ah_back hok3 hcl3 (fun w9 hs => (hs.fewer 3 rfl)) ?_)
          refine ah_t 30 (fun w9 hs => (hs.fewer 3 rfl)) rfl rfl (by kernel_rfl) (q_pickT rfl rfl) ?_
          refine ah_t 31 (fun w9 hs => (hs.fewer 3 rfl)) rfl rfl (by kernel_rfl) (q_move rfl) ?_
          refine ah_split 36 rfl (fun hb5 => ?_) (fun hb5 => ?_)
          · have q5 := hb5
            refine ah_t 32 (fun w9 hs => (hs.fewer 3 rfl)) rfl rfl (by kernel_rfl) (q_fieldAddr 2 rfl Tryz.runUnderlying32 rfl Tryz.sizeOf30 (by decide) rfl) ?_
            refine ah_t 33 (fun w9 hs => (hs.fewer 3 rfl)) rfl rfl (by kernel_rfl) (q_load (i := 0) rfl rfl rfl Tryz.isAgg30) ?_
            refine ah_t 34 (fun w9 hs => (hs.fewer 3 rfl)) rfl rfl (by kernel_rfl) (q_lenS rfl Tryz.runUnderlying30) ?_
            refine ah_t 35 (fun w9 hs => (hs.fewer 3 rfl)) rfl rfl (by kernel_rfl) (q_fieldAddr 4 rfl Tryz.runUnderlying29 rfl Tryz.sizeOf26 (by decide) rfl) ?_
            refine ah_t 36 (fun w9 hs => (hs.fewer 3 rfl)) rfl rfl (by kernel_rfl) (q_loadSub (i := 1) rfl rfl Tryz.isAgg26 Tryz.sizeOf26 .k4 .k5) ?_
            refine ah_one 37 rfl (by kernel_rfl) (fun hok4 hcl4 => ?_)
            refine al_call Tryz.call96 (.cons rfl .nil) rfl rfl (fun w4 hs4 => ?_)
            refine (cells_any M.grid _ (by omega) (by omega)).mono ?_
            rintro e u4 ⟨rfl, hb_4⟩
            refine ⟨_, rfl, hb_4, ?_⟩
            clear hs4
            refine al_end (ah_back hok4 hcl4 (fun w9 hs => (hs.fewer 4 rfl)) ?_)
            refine ah_t 38 (fun w9 hs => (hs.fewer 4 rfl)) rfl rfl (by kernel_rfl) (q_eql rfl rfl) ?_
            refine ah_t 39 (fun w9 hs => (hs.fewer 4 rfl)) rfl rfl (by kernel_rfl) (q_pickT rfl rfl) ?_
            refine ah_t 40 (fun w9 hs => (hs.fewer 4 rfl)) rfl rfl (by kernel_rfl) (q_move rfl) ?_
            refine ah_split 45 rfl (fun hb6 => ?_) (fun hb6 => ?_)
            · have q6 : (Q.lc : Int) = M.grid.nr * M.grid.nz := of_decide_eq_true hb6
              refine ah_t 41 (fun w9 hs => (hs.fewer 4 rfl)) rfl rfl (by kernel_rfl) (q_fieldAddr 2 rfl Tryz.runUnderlying32 rfl Tryz.sizeOf30 (by decide) rfl) ?_
              refine ah_t 42 (fun w9 hs => (hs.fewer 4 rfl)) rfl rfl (by kernel_rfl) (q_load (i := 0) rfl rfl rfl Tryz.isAgg30) ?_
              refine ah_one 43 rfl (by kernel_rfl) (fun hok5 hcl5 => ?_)
              refine al_call Tryz.call95 (.cons rfl (.cons rfl (.cons rfl .nil))) rfl rfl (fun w5 hs5 => ?_)
              refine (allWithin_any Q.C Q.lc Q.cc C.plasma 0 1000000 _ (hC.plasma.below hs5.below) hC.kc).mono ?_
              rintro e u5 ⟨rfl, hb_5⟩
              refine ⟨_, rfl, hb_5, ?_⟩
              clear hs5
              refine al_end (ah_back hok5 hcl5 (fun w9 hs => (hs.fewer 5 rfl)) ?_)
              refine ah_t 44 (fun w9 hs => (hs.fewer 5 rfl)) rfl rfl (by kernel_rfl) (q_pickT rfl rfl) ?_
              refine ah_t 45 (fun w9 hs => (hs.fewer 5 rfl)) rfl rfl (by kernel_rfl) (q_move rfl) ?_
              refine ah_split 50 rfl (fun hb7 => ?_) (fun hb7 => ?_)
              · have q7 := hb7
                refine ah_t 46 (fun w9 hs => (hs.fewer 5 rfl)) rfl rfl (by kernel_rfl) (q_loadAll (i := 0) rfl rfl Tryz.isAgg32 Tryz.sizeOf32 rfl) ?_
                refine ah_one 47 rfl (by kernel_rfl) (fun hok6 hcl6 => ?_)
                refine al_call Tryz.call97 (.cons rfl .nil) rfl rfl (fun w6 hs6 => ?_)
                refine (total_any Q.A Q.B Q.C Q.la Q.ca Q.lb Q.cb Q.lc Q.cc C.plasma _ (hC.plasma.below hs6.below) hC.kc).mono ?_
                rintro e u6 ⟨rfl, hb_6⟩
                refine ⟨_, rfl, hb_6, ?_⟩
                clear hs6
                refine al_end (ah_back hok6 hcl6 (fun w9 hs => (hs.fewer 6 rfl)) ?_)
                refine ah_t 48 (fun w9 hs => (hs.fewer 6 rfl)) rfl rfl (by kernel_rfl) (q_leq rfl rfl) ?_
                refine ah_t 49 (fun w9 hs => (hs.fewer 6 rfl)) rfl rfl (by kernel_rfl) (q_pickT rfl rfl) ?_
                refine ah_one 50 rfl (by kernel_rfl) (fun hok7 hcl7 => ?_)
                refine al_p (q_assign rfl) ?_
                refine al_end (ah_last (by kernel_rfl) ?_)
                refine aq_then ?_
                refine ac_ret ?_
                refine ret1 Tryz.results56 rfl (fun w9 hs => ?_)
                refine ⟨?_, hs.below⟩; simp [validC, na, la, nb, lb, nc, q1, q2, q3, q4, q5, q6, q7]
              · have q7 := hb7
                refine ah_s 46 (fun w9 hs => (hs.fewer 5 rfl)) rfl rfl (by kernel_rfl) ?_
                refine ah_s 47 (fun w9 hs => (hs.fewer 5 rfl)) rfl rfl (by kernel_rfl) ?_
                refine ah_s 48 (fun w9 hs => (hs.fewer 5 rfl)) rfl rfl (by kernel_rfl) ?_
                refine ah_t 49 (fun w9 hs => (hs.fewer 5 rfl)) rfl rfl (by kernel_rfl) (q_pickF rfl rfl) ?_
                refine ah_one 50 rfl (by kernel_rfl) (fun hok8 hcl8 => ?_)
                refine al_p (q_assign rfl) ?_
                refine al_end (ah_last (by kernel_rfl) ?_)
                refine aq_then ?_
                refine ac_ret ?_
                refine ret1 Tryz.results56 rfl (fun w9 hs => ?_)
                refine ⟨?_, hs.below⟩; simp [validC, na, la, nb, lb, nc, q1, q2, q3, q4, q5, q6, q7]
            · have q6 : ¬ (Q.lc : Int) = M.grid.nr * M.grid.nz := of_decide_eq_false hb6
              refine ah_s 41 (fun w9 hs => (hs.fewer 4 rfl)) rfl rfl (by kernel_rfl) ?_
              refine ah_s 42 (fun w9 hs => (hs.fewer 4 rfl)) rfl rfl (by kernel_rfl) ?_
              refine ah_s 43 (fun w9 hs => (hs.fewer 4 rfl)) rfl rfl (by kernel_rfl) ?_
              refine ah_t 44 (fun w9 hs => (hs.fewer 4 rfl)) rfl rfl (by kernel_rfl) (q_pickF rfl rfl) ?_
              refine ah_t 45 (fun w9 hs => (hs.fewer 4 rfl)) rfl rfl (by kernel_rfl) (q_move rfl) ?_
              refine ah_s 46 (fun w9 hs => (hs.fewer 4 rfl)) rfl rfl (by kernel_rfl) ?_
              refine ah_s 47 (fun w9 hs => (hs.fewer 4 rfl)) rfl rfl (by kernel_rfl) ?_
              refine ah_s 48 (fun w9 hs => (hs.fewer 4 rfl)) rfl rfl (by kernel_rfl) ?_
              refine ah_t 49 (fun w9 hs => (hs.fewer 4 rfl)) rfl rfl (by kernel_rfl) (q_pickF rfl rfl) ?_
              refine ah_one 50 rfl (by kernel_rfl) (fun hok9 hcl9 => ?_)
              refine al_p (q_assign rfl) ?_
              refine al_end (ah_last (by kernel_rfl) ?_)
              refine aq_then ?_
              refine ac_ret ?_
              refine ret1 Tryz.results56 rfl (fun w9 hs => ?_)
              refine ⟨?_, hs.below⟩; simp [validC, na, la, nb, lb, nc, q1, q2, q3, q4, q5, q6]
          · have q5 := hb5
            refine ah_s 32 (fun w9 hs => (hs.fewer 3 rfl)) rfl rfl (by kernel_rfl) ?_
            refine ah_s 33 (fun w9 hs => (hs.fewer 3 rfl)) rfl rfl (by kernel_rfl) ?_
            refine ah_s 34 (fun w9 hs => (hs.fewer 3 rfl)) rfl rfl (by kernel_rfl) ?_
            refine ah_s 35 (fun w9 hs => (hs.fewer 3 rfl)) rfl rfl (by kernel_rfl) ?_
            refine ah_s 36 (fun w9 hs => (hs.fewer 3 rfl)) rfl rfl (by kernel_rfl) ?_
            refine ah_s 37 (fun w9 hs => (hs.fewer 3 rfl)) rfl rfl (by kernel_rfl) ?_
            refine ah_s 38 (fun w9 hs => (hs.fewer 3 rfl)) rfl rfl (by kernel_rfl) ?_
            refine ah_t 39 (fun w9 hs => (hs.fewer 3 rfl)) rfl rfl (by kernel_rfl) (q_pickF rfl rfl) ?_
            refine ah_t 40 (fun w9 hs => (hs.fewer 3 rfl)) rfl rfl (by kernel_rfl) (q_move rfl) ?_
            refine ah_s 41 (fun w9 hs => (hs.fewer 3 rfl)) rfl rfl (by kernel_rfl) ?_
            refine ah_s 42 (fun w9 hs => (hs.fewer 3 rfl)) rfl rfl (by kernel_rfl) ?_
            refine ah_s 43 (fun w9 hs => (hs.fewer 3 rfl)) rfl rfl (by kernel_rfl) ?_
            refine ah_t 44 (fun w9 hs => (hs.fewer 3 rfl)) rfl rfl (by kernel_rfl) (q_pickF rfl rfl) ?_
            refine ah_t 45 (fun w9 hs => (hs.fewer 3 rfl)) rfl rfl (by kernel_rfl) (q_move rfl) ?_
            refine ah_s 46 (fun w9 hs => (hs.fewer 3 rfl)) rfl rfl (by kernel_rfl) ?_
            refine ah_s 47 (fun w9 hs => (hs.fewer 3 rfl)) rfl rfl (by kernel_rfl) ?_
            refine ah_s 48 (fun w9 hs => (hs.fewer 3 rfl)) rfl rfl (by kernel_rfl) ?_
            refine ah_t 49 (fun w9 hs => (hs.fewer 3 rfl)) rfl rfl (by kernel_rfl) (q_pickF rfl rfl) ?_
            refine ah_one 50 rfl (by kernel_rfl) (fun hok10 hcl10 => ?_)
            refine al_p (q_assign rfl) ?_
            refine al_end (ah_last (by kernel_rfl) ?_)
            refine aq_then ?_
            refine ac_ret ?_
            refine ret1 Tryz.results56 rfl (fun w9 hs => ?_)
            refine ⟨?_, hs.below⟩; simp [validC, na, la, nb, lb, nc, q1, q2, q3, q4, q5]
        · have q4 : ¬ Q.lb = R.lb := by have := of_decide_eq_false hb4; omega
          refine ah_s 27 (fun w9 hs => (hs.fewer 2 rfl)) rfl rfl (by kernel_rfl) ?_
          refine ah_s 28 (fun w9 hs => (hs.fewer 2 rfl)) rfl rfl (by kernel_rfl) ?_
          refine ah_s 29 (fun w9 hs => (hs.fewer 2 rfl)) rfl rfl (by kernel_rfl) ?_
          refine ah_t 30 (fun w9 hs => (hs.fewer 2 rfl)) rfl rfl (by kernel_rfl) (q_pickF rfl rfl) ?_
          refine ah_t 31 (fun w9 hs => (hs.fewer 2 rfl)) rfl rfl (by kernel_rfl) (q_move rfl) ?_
          refine ah_s 32 (fun w9 hs => (hs.fewer 2 rfl)) rfl rfl (by kernel_rfl) ?_
          refine ah_s 33 (fun w9 hs => (hs.fewer 2 rfl)) rfl rfl (by kernel_rfl) ?_
          refine ah_s 34 (fun w9 hs => (hs.fewer 2 rfl)) rfl rfl (by kernel_rfl) ?_
          refine ah_s 35 (fun w9 hs => (hs.fewer 2 rfl)) rfl rfl (by kernel_rfl) ?_
          refine ah_s 36 (fun w9 hs => (hs.fewer 2 rfl)) rfl rfl (by kernel_rfl) ?_
          refine ah_s 37 (fun w9 hs => (hs.fewer 2 rfl)) rfl rfl (by kernel_rfl) ?_
          refine ah_s 38 (fun w9 hs => (hs.fewer 2 rfl)) rfl rfl (by kernel_rfl) ?_
          refine ah_t 39 (fun w9 hs => (hs.fewer 2 rfl)) rfl rfl (by kernel_rfl) (q_pickF rfl rfl) ?_
          refine ah_t 40 (fun w9 hs => (hs.fewer 2 rfl)) rfl rfl (by kernel_rfl) (q_move rfl) ?_
          refine ah_s 41 (fun w9 hs => (hs.fewer 2 rfl)) rfl rfl (by kernel_rfl) ?_
          refine ah_s 42 (fun w9 hs => (hs.fewer 2 rfl)) rfl rfl (by kernel_rfl) ?_
          refine ah_s 43 (fun w9 hs => (hs.fewer 2 rfl)) rfl rfl (by kernel_rfl) ?_
          refine ah_t 44 (fun w9 hs => (hs.fewer 2 rfl)) rfl rfl (by kernel_rfl) (q_pickF rfl rfl) ?_
          refine ah_t 45 (fun w9 hs => (hs.fewer 2 rfl)) rfl rfl (by kernel_rfl) (q_move rfl) ?_
          refine ah_s 46 (fun w9 hs => (hs.fewer 2 rfl)) rfl rfl (by kernel_rfl) ?_
          refine ah_s 47 (fun w9 hs => (hs.fewer 2 rfl)) rfl rfl (by kernel_rfl) ?_
          refine ah_s 48 (fun w9 hs => (hs.fewer 2 rfl)) rfl rfl (by kernel_rfl) ?_
          refine ah_t 49 (fun w9 hs => (hs.fewer 2 rfl)) rfl rfl (by kernel_rfl) (q_pickF rfl rfl) ?_
          refine ah_one 50 rfl (by kernel_rfl) (fun hok11 hcl11 => ?_)
          refine al_p (q_assign rfl) ?_
          refine al_end (ah_last (by kernel_rfl) ?_)
          refine aq_then ?_
          refine aq_keepL [4] (.cons rfl .nil) ?_
          refine aq_keepB (.drop (.drop .nil)) ?_
          refine ac_ret ?_
          refine ret1 Tryz.results56 rfl (fun w9 hs => ?_)
          refine ⟨?_, hs.below⟩; simp [validC, na, la, nb, lb, nc, q1, q2, q3, q4]
      · have q3 := hb3
        refine ah_s 18 (fun w9 hs => (hs.fewer 2 rfl)) rfl rfl (by kernel_rfl) ?_
        refine ah_s 19 (fun w9 hs => (hs.fewer 2 rfl)) rfl rfl (by kernel_rfl) ?_
        refine ah_s 20 (fun w9 hs => (hs.fewer 2 rfl)) rfl rfl (by kernel_rfl) ?_
        refine ah_s 21 (fun w9 hs => (hs.fewer 2 rfl)) rfl rfl (by kernel_rfl) ?_
        refine ah_s 22 (fun w9 hs => (hs.fewer 2 rfl)) rfl rfl (by kernel_rfl) ?_
        refine ah_s 23 (fun w9 hs => (hs.fewer 2 rfl)) rfl rfl (by kernel_rfl) ?_
        refine ah_s 24 (fun w9 hs => (hs.fewer 2 rfl)) rfl rfl (by kernel_rfl) ?_
        refine ah_t 25 (fun w9 hs => (hs.fewer 2 rfl)) rfl rfl (by kernel_rfl) (q_pickF rfl rfl) ?_
        refine ah_t 26 (fun w9 hs => (hs.fewer 2 rfl)) rfl rfl (by kernel_rfl) (q_move rfl) ?_
        refine ah_s 27 (fun w9 hs => (hs.fewer 2 rfl)) rfl rfl (by kernel_rfl) ?_
        refine ah_s 28 (fun w9 hs => (hs.fewer 2 rfl)) rfl rfl (by kernel_rfl) ?_
        refine ah_s 29 (fun w9 hs => (hs.fewer 2 rfl)) rfl rfl (by kernel_rfl) ?_
        refine ah_t 30 (fun w9 hs => (hs.fewer 2 rfl)) rfl rfl (by kernel_rfl) (q_pickF rfl rfl) ?_
        refine ah_t 31 (fun w9 hs => (hs.fewer 2 rfl)) rfl rfl (by kernel_rfl) (q_move rfl) ?_
        refine ah_s 32 (fun w9 hs => (hs.fewer 2 rfl)) rfl rfl (by kernel_rfl) ?_
        refine ah_s 33 (fun w9 hs => (hs.fewer 2 rfl)) rfl rfl (by kernel_rfl) ?_
        refine ah_s 34 (fun w9 hs => (hs.fewer 2 rfl)) rfl rfl (by kernel_rfl) ?_
        refine ah_s 35 (fun w9 hs => (hs.fewer 2 rfl)) rfl rfl (by kernel_rfl) ?_
        refine ah_s 36 (fun w9 hs => (hs.fewer 2 rfl)) rfl rfl (by kernel_rfl) ?_
        refine ah_s 37 (fun w9 hs => (hs.fewer 2 rfl)) rfl rfl (by kernel_rfl) ?_
        refine ah_s 38 (fun w9 hs => (hs.fewer 2 rfl)) rfl rfl (by kernel_rfl) ?_
        refine ah_t 39 (fun w9 hs => (hs.fewer 2 rfl)) rfl rfl (by kernel_rfl) (q_pickF rfl rfl) ?_
        refine ah_t 40 (fun w9 hs => (hs.fewer 2 rfl)) rfl rfl (by kernel_rfl) (q_move rfl) ?_
        refine ah_s 41 (fun w9 hs => (hs.fewer 2 rfl)) rfl rfl (by kernel_rfl) ?_
        refine ah_s 42 (fun w9 hs => (hs.fewer 2 rfl)) rfl rfl (by kernel_rfl) ?_
        refine ah_s 43 (fun w9 hs => (hs.fewer 2 rfl)) rfl rfl (by kernel_rfl) ?_
        refine ah_t 44 (fun w9 hs => (hs.fewer 2 rfl)) rfl rfl (by kernel_rfl) (q_pickF rfl rfl) ?_
        refine ah_t 45 (fun w9 hs => (hs.fewer 2 rfl)) rfl rfl (by kernel_rfl) (q_move rfl) ?_
        refine ah_s 46 (fun w9 hs => (hs.fewer 2 rfl)) rfl rfl (by kernel_rfl) ?_
        refine ah_s 47 (fun w9 hs => (hs.fewer 2 rfl)) rfl rfl (by kernel_rfl) ?_
        refine ah_s 48 (fun w9 hs => (hs.fewer 2 rfl)) rfl rfl (by kernel_rfl) ?_
        refine ah_t 49 (fun w9 hs => (hs.fewer 2 rfl)) rfl rfl (by kernel_rfl) (q_pickF rfl rfl) ?_
        refine ah_one 50 rfl (by kernel_rfl) (fun hok12 hcl12 => ?_)
        refine al_p (q_assign rfl) ?_
        refine al_end (ah_last (by kernel_rfl) ?_)
        refine aq_then ?_
        refine ac_ret ?_
        refine ret1 Tryz.results56 rfl (fun w9 hs => ?_)
        refine ⟨?_, hs.below⟩; simp [validC, na, la, nb, lb, nc, q1, q2, q3]
    · have q2 : ¬ Q.la = R.la := by have := of_decide_eq_false hb2; omega
      refine ah_s 13 (fun w9 hs => (hs.fewer 1 rfl)) rfl rfl (by kernel_rfl) ?_
      refine ah_s 14 (fun w9 hs => (hs.fewer 1 rfl)) rfl rfl (by kernel_rfl) ?_
      refine ah_s 15 (fun w9 hs => (hs.fewer 1 rfl)) rfl rfl (by kernel_rfl) ?_
      refine ah_t 16 (fun w9 hs => (hs.fewer 1 rfl)) rfl rfl (by kernel_rfl) (q_pickF rfl rfl) ?_
      refine ah_t 17 (fun w9 hs => (hs.fewer 1 rfl)) rfl rfl (by kernel_rfl) (q_move rfl) ?_
      refine ah_s 18 (fun w9 hs => (hs.fewer 1 rfl)) rfl rfl (by kernel_rfl) ?_
      refine ah_s 19 (fun w9 hs => (hs.fewer 1 rfl)) rfl rfl (by kernel_rfl) ?_
      refine ah_s 20 (fun w9 hs => (hs.fewer 1 rfl)) rfl rfl (by kernel_rfl) ?_
      refine ah_s 21 (fun w9 hs => (hs.fewer 1 rfl)) rfl rfl (by kernel_rfl) ?_
      refine ah_s 22 (fun w9 hs => (hs.fewer 1 rfl)) rfl rfl (by kernel_rfl) ?_
      refine ah_s 23 (fun w9 hs => (hs.fewer 1 rfl)) rfl rfl (by kernel_rfl) ?_
      refine ah_s 24 (fun w9 hs => (hs.fewer 1 rfl)) rfl rfl (by kernel_rfl) ?_
      refine ah_t 25 (fun w9 hs => (hs.fewer 1 rfl)) rfl rfl (by kernel_rfl) (q_pickF rfl rfl) ?_
      refine ah_t 26 (fun w9 hs => (hs.fewer 1 rfl)) rfl rfl (by kernel_rfl) (q_move rfl) ?_
      refine ah_s 27 (fun w9 hs => (hs.fewer 1 rfl)) rfl rfl (by kernel_rfl) ?_
      refine ah_s 28 (fun w9 hs => (hs.fewer 1 rfl)) rfl rfl (by kernel_rfl) ?_
      refine ah_s 29 (fun w9 hs => (hs.fewer 1 rfl)) rfl rfl (by kernel_rfl) ?_
      refine ah_t 30 (fun w9 hs => (hs.fewer 1 rfl)) rfl rfl (by kernel_rfl) (q_pickF rfl rfl) ?_
      refine ah_t 31 (fun w9 hs => (hs.fewer 1 rfl)) rfl rfl (by kernel_rfl) (q_move rfl) ?_
      refine ah_s 32 (fun w9 hs => (hs.fewer 1 rfl)) rfl rfl (by kernel_rfl) ?_
      refine ah_s 33 (fun w9 hs => (hs.fewer 1 rfl)) rfl rfl (by kernel_rfl) ?_
      refine ah_s 34 (fun w9 hs => (hs.fewer 1 rfl)) rfl rfl (by kernel_rfl) ?_
      refine ah_s 35 (fun w9 hs => (hs.fewer 1 rfl)) rfl rfl (by kernel_rfl) ?_
      refine ah_s 36 (fun w9 hs => (hs.fewer 1 rfl)) rfl rfl (by kernel_rfl) ?_
      refine ah_s 37 (fun w9 hs => (hs.fewer 1 rfl)) rfl rfl (by kernel_rfl) ?_
      refine ah_s 38 (fun w9 hs => (hs.fewer 1 rfl)) rfl rfl (by kernel_rfl) ?_
      refine ah_t 39 (fun w9 hs => (hs.fewer 1 rfl)) rfl rfl (by kernel_rfl) (q_pickF rfl rfl) ?_
      refine ah_t 40 (fun w9 hs => (hs.fewer 1 rfl)) rfl rfl (by kernel_rfl) (q_move rfl) ?_
      refine ah_s 41 (fun w9 hs => (hs.fewer 1 rfl)) rfl rfl (by kernel_rfl) ?_
      refine ah_s 42 (fun w9 hs => (hs.fewer 1 rfl)) rfl rfl (by kernel_rfl) ?_
      refine ah_s 43 (fun w9 hs => (hs.fewer 1 rfl)) rfl rfl (by kernel_rfl) ?_
      refine ah_t 44 (fun w9 hs => (hs.fewer 1 rfl)) rfl rfl (by kernel_rfl) (q_pickF rfl rfl) ?_
      refine ah_t 45 (fun w9 hs => (hs.fewer 1 rfl)) rfl rfl (by kernel_rfl) (q_move rfl) ?_
      refine ah_s 46 (fun w9 hs => (hs.fewer 1 rfl)) rfl rfl (by kernel_rfl) ?_
      refine ah_s 47 (fun w9 hs => (hs.fewer 1 rfl)) rfl rfl (by kernel_rfl) ?_
      refine ah_s 48 (fun w9 hs => (hs.fewer 1 rfl)) rfl rfl (by kernel_rfl) ?_
      refine ah_t 49 (fun w9 hs => (hs.fewer 1 rfl)) rfl rfl (by kernel_rfl) (q_pickF rfl rfl) ?_
      refine ah_one 50 rfl (by kernel_rfl) (fun hok13 hcl13 => ?_)
      refine al_p (q_assign rfl) ?_
      refine al_end (ah_last (by kernel_rfl) ?_)
      refine aq_then ?_
      refine ac_ret ?_
      refine ret1 Tryz.results56 rfl (fun w9 hs => ?_)
      refine ⟨?_, hs.below⟩; simp [validC, na, la, nb, lb, nc, q1, q2]
  · have q1 : ¬ checkC M = 0 := of_decide_eq_false hb1
    refine ah_s 4 (fun w9 hs => (hs.fewer 1 rfl)) rfl rfl (by kernel_rfl) ?_
    refine ah_s 5 (fun w9 hs => (hs.fewer 1 rfl)) rfl rfl (by kernel_rfl) ?_
    refine ah_s 6 (fun w9 hs => (hs.fewer 1 rfl)) rfl rfl (by kernel_rfl) ?_
    refine ah_s 7 (fun w9 hs => (hs.fewer 1 rfl)) rfl rfl (by kernel_rfl) ?_
    refine ah_s 8 (fun w9 hs => (hs.fewer 1 rfl)) rfl rfl (by kernel_rfl) ?_
    refine ah_s 9 (fun w9 hs => (hs.fewer 1 rfl)) rfl rfl (by kernel_rfl) ?_
    refine ah_s 10 (fun w9 hs => (hs.fewer 1 rfl)) rfl rfl (by kernel_rfl) ?_
    refine ah_t 11 (fun w9 hs => (hs.fewer 1 rfl)) rfl rfl (by kernel_rfl) (q_pickF rfl rfl) ?_
    refine ah_t 12 (fun w9 hs => (hs.fewer 1 rfl)) rfl rfl (by kernel_rfl) (q_move rfl) ?_
    refine ah_s 13 (fun w9 hs => (hs.fewer 1 rfl)) rfl rfl (by kernel_rfl) ?_
    refine ah_s 14 (fun w9 hs => (hs.fewer 1 rfl)) rfl rfl (by kernel_rfl) ?_
    refine ah_s 15 (fun w9 hs => (hs.fewer 1 rfl)) rfl rfl (by kernel_rfl) ?_
    refine ah_t 16 (fun w9 hs => (hs.fewer 1 rfl)) rfl rfl (by kernel_rfl) (q_pickF rfl rfl) ?_
    refine ah_t 17 (fun w9 hs => (hs.fewer 1 rfl)) rfl rfl (by kernel_rfl) (q_move rfl) ?_
    refine ah_s 18 (fun w9 hs => (hs.fewer 1 rfl)) rfl rfl (by kernel_rfl) ?_
    refine ah_s 19 (fun w9 hs => (hs.fewer 1 rfl)) rfl rfl (by kernel_rfl) ?_
    refine ah_s 20 (fun w9 hs => (hs.fewer 1 rfl)) rfl rfl (by kernel_rfl) ?_
    refine ah_s 21 (fun w9 hs => (hs.fewer 1 rfl)) rfl rfl (by kernel_rfl) ?_
    refine ah_s 22 (fun w9 hs => (hs.fewer 1 rfl)) rfl rfl (by kernel_rfl) ?_
    refine ah_s 23 (fun w9 hs => (hs.fewer 1 rfl)) rfl rfl (by kernel_rfl) ?_
    refine ah_s 24 (fun w9 hs => (hs.fewer 1 rfl)) rfl rfl (by kernel_rfl) ?_
    refine ah_t 25 (fun w9 hs => (hs.fewer 1 rfl)) rfl rfl (by kernel_rfl) (q_pickF rfl rfl) ?_
    refine ah_t 26 (fun w9 hs => (hs.fewer 1 rfl)) rfl rfl (by kernel_rfl) (q_move rfl) ?_
    refine ah_s 27 (fun w9 hs => (hs.fewer 1 rfl)) rfl rfl (by kernel_rfl) ?_
    refine ah_s 28 (fun w9 hs => (hs.fewer 1 rfl)) rfl rfl (by kernel_rfl) ?_
    refine ah_s 29 (fun w9 hs => (hs.fewer 1 rfl)) rfl rfl (by kernel_rfl) ?_
    refine ah_t 30 (fun w9 hs => (hs.fewer 1 rfl)) rfl rfl (by kernel_rfl) (q_pickF rfl rfl) ?_
    refine ah_t 31 (fun w9 hs => (hs.fewer 1 rfl)) rfl rfl (by kernel_rfl) (q_move rfl) ?_
    refine ah_s 32 (fun w9 hs => (hs.fewer 1 rfl)) rfl rfl (by kernel_rfl) ?_
    refine ah_s 33 (fun w9 hs => (hs.fewer 1 rfl)) rfl rfl (by kernel_rfl) ?_
    refine ah_s 34 (fun w9 hs => (hs.fewer 1 rfl)) rfl rfl (by kernel_rfl) ?_
    refine ah_s 35 (fun w9 hs => (hs.fewer 1 rfl)) rfl rfl (by kernel_rfl) ?_
    refine ah_s 36 (fun w9 hs => (hs.fewer 1 rfl)) rfl rfl (by kernel_rfl) ?_
    refine ah_s 37 (fun w9 hs => (hs.fewer 1 rfl)) rfl rfl (by kernel_rfl) ?_
    refine ah_s 38 (fun w9 hs => (hs.fewer 1 rfl)) rfl rfl (by kernel_rfl) ?_
    refine ah_t 39 (fun w9 hs => (hs.fewer 1 rfl)) rfl rfl (by kernel_rfl) (q_pickF rfl rfl) ?_
    refine ah_t 40 (fun w9 hs => (hs.fewer 1 rfl)) rfl rfl (by kernel_rfl) (q_move rfl) ?_
    refine ah_s 41 (fun w9 hs => (hs.fewer 1 rfl)) rfl rfl (by kernel_rfl) ?_
    refine ah_s 42 (fun w9 hs => (hs.fewer 1 rfl)) rfl rfl (by kernel_rfl) ?_
    refine ah_s 43 (fun w9 hs => (hs.fewer 1 rfl)) rfl rfl (by kernel_rfl) ?_
    refine ah_t 44 (fun w9 hs => (hs.fewer 1 rfl)) rfl rfl (by kernel_rfl) (q_pickF rfl rfl) ?_
    refine ah_t 45 (fun w9 hs => (hs.fewer 1 rfl)) rfl rfl (by kernel_rfl) (q_move rfl) ?_
    refine ah_s 46 (fun w9 hs => (hs.fewer 1 rfl)) rfl rfl (by kernel_rfl) ?_
    refine ah_s 47 (fun w9 hs => (hs.fewer 1 rfl)) rfl rfl (by kernel_rfl) ?_
    refine ah_s 48 (fun w9 hs => (hs.fewer 1 rfl)) rfl rfl (by kernel_rfl) ?_
    refine ah_t 49 (fun w9 hs => (hs.fewer 1 rfl)) rfl rfl (by kernel_rfl) (q_pickF rfl rfl) ?_
    refine ah_one 50 rfl (by kernel_rfl) (fun hok14 hcl14 => ?_)
    refine al_p (q_assign rfl) ?_
    refine al_end (ah_last (by kernel_rfl) ?_)
    refine aq_then ?_
    refine ac_ret ?_
    refine ret1 Tryz.results56 rfl (fun w9 hs => ?_)
    refine ⟨?_, hs.below⟩; simp [validC, na, la, nb, lb, nc, q1]
end
section
open Go.RowKit
def infl (a b c d : Int) : Int := if nearB a b 1000 = true ∧ nearB c d 1000 = true then 1000000 / (4 + (a - c) * (a - c) + (b - d) * (b - d)) else 0
theorem sq_bd {x : Int} (h0 : -2000 ≤ x) (h1 : x ≤ 2000) : 0 ≤ x * x ∧ x * x ≤ 4000000 := by
  rcases Int.le_total 0 x with h | h
  · exact ⟨Int.mul_nonneg h h, Int.mul_le_mul h1 h1 h (by omega)⟩
  · rw [← Int.neg_mul_neg]
    exact ⟨Int.mul_nonneg (by omega) (by omega), Int.mul_le_mul (a := -x) (b := -x) (c := 2000) (d := 2000) (by omega) (by omega) (by omega) (by omega)⟩
theorem nearB_bd {r z f : Int} (h : nearB r z f = true) : (-f ≤ r ∧ r ≤ f) ∧ -f ≤ z ∧ z ≤ f := by simpa [nearB, wthn] using h
theorem infl_bd (a b c d : Int) : 0 ≤ infl a b c d ∧ infl a b c d ≤ 250000 := by
  unfold infl
  split
  · rename_i h
    have h1 := nearB_bd h.1
    have h2 := nearB_bd h.2
    have s1 := sq_bd (x := a - c) (by omega) (by omega)
    have s2 := sq_bd (x := b - d) (by omega) (by omega)
    generalize (a - c) * (a - c) = p at *
    generalize (b - d) * (b - d) = q at *
    refine ⟨Int.ediv_nonneg (by omega) (by omega), ?_⟩
    have : 1000000 / (4 + p + q) ≤ 1000000 / 4 := by
      rw [Int.le_ediv_iff_mul_le (by omega)]
      have h4 : 1000000 / (4 + p + q) * (4 + p + q) ≤ 1000000 := Int.ediv_mul_le _ (by omega)
      have h5 : 0 ≤ 1000000 / (4 + p + q) := Int.ediv_nonneg (by omega) (by omega)
      have h6 : 1000000 / (4 + p + q) * 4 ≤ 1000000 / (4 + p + q) * (4 + p + q) := Int.mul_le_mul_of_nonneg_left (by omega) h5
      omega
    omega
  · omega
set_option maxRecDepth 100000 in
set_option maxHeartbeats 2000000 in
theorem influence_any (a b c d : Int) (w : World) :
    Calls Tryz.prog 143 #[.agg #[.int .i64 a, .int .i64 b], .agg #[.int .i64 c, .int .i64 d]] w (Ret (.int .i64 (infl a b c d)) w) := by
  cases n1 : nearB a b 1000
  · have HE : Hid (infl a b c d = 0) := Lib.hid (by unfold infl; rw [if_neg (by simp [n1])])
    go_enter Tryz.func143, Tryz.ntmps143
    go_wp2_with (go_at_call 175; refine (near_any _ _ _ _ (by omega) (by omega)).mono ?_; rintro e w1 ⟨rfl, rfl⟩)
    go_ret
    exact ⟨by rw [HE.out]; rfl, by (repeat first | with_reducible exact Below.refl _ _ | (with_reducible refine Below.alloc ?_ ?_ _; rotate_left; exact (by first | omega | (simp; done))))⟩
  cases n2 : nearB c d 1000
  · have HE : Hid (infl a b c d = 0) := Lib.hid (by unfold infl; rw [if_neg (by simp [n2])])
    go_enter Tryz.func143, Tryz.ntmps143
    go_wp2_with (go_at_call 175; refine (near_any _ _ _ _ (by omega) (by omega)).mono ?_; rintro e w1 ⟨rfl, rfl⟩)
    go_ret
    exact ⟨by rw [HE.out]; rfl, by (repeat first | with_reducible exact Below.refl _ _ | (with_reducible refine Below.alloc ?_ ?_ _; rotate_left; exact (by first | omega | (simp; done))))⟩
  have HE : Hid (infl a b c d = 1000000 / (4 + (a - c) * (a - c) + (b - d) * (b - d))) := Lib.hid (by unfold infl; rw [if_pos ⟨n1, n2⟩])
  obtain ⟨⟨a0, a1⟩, b0, b1⟩ := nearB_bd n1
  obtain ⟨⟨c0, c1⟩, d0, d1⟩ := nearB_bd n2
  have s1 := sq_bd (x := a - c) (by omega) (by omega)
  have s2 := sq_bd (x := b - d) (by omega) (by omega)
  have e1 : IntKind.i64.wrap (a - c) = a - c := IntWalk.i64_in _ (by omega)
  have e2 : IntKind.i64.wrap (b - d) = b - d := IntWalk.i64_in _ (by omega)
  go_enter Tryz.func143, Tryz.ntmps143
  go_wp2_with (go_at_call 175; refine (near_any _ _ _ _ (by omega) (by omega)).mono ?_; rintro e w1 ⟨rfl, rfl⟩)
  go_quiet (fail)
  obtain ⟨g0, g1⟩ := infl_bd a b c d
  generalize infl a b c d = G at *
  generalize hx : a - c = x at *
  generalize hy : b - d = y at *
  clear n1 n2
  generalize hp : x * x = p at *
  generalize hq : y * y = q at *
  have k0 : ¬(4 + p + q = 0) := by omega
  have k1 : ((4 + p + q) == 0) = false := by rw [beq_eq_false_iff_ne]; omega
  have k2 : (1000000 : Int).tdiv (4 + p + q) = G := by rw [HE.out]; exact Int.tdiv_eq_ediv_of_nonneg (by omega)
  have k3 : (1000000 : Int) / (4 + p + q) = G := HE.out.symm
  clear HE
  go_wp2_with fail
  go_ret
  exact ⟨rfl, by (repeat first | with_reducible exact Below.refl _ _ | (with_reducible refine Below.alloc ?_ ?_ _; rotate_left; exact (by first | omega | (simp; done))) | with_reducible refine Below_drewN ?_ _)⟩
end
section
open Go.RowKit Go.Shelf
attribute [local go_sem] Oper.semAt_some
theorem grown_of_below {a b : World} (h : Below a.heap.size a b) : a.grownBy b none := ⟨h.os, h.tape, h.output, h.size, fun k hk _ => h.block k hk⟩
def KpF (n₀ tm tc : Nat) (W W' : World) : Prop := Below n₀ W W' ∧ ∀ b o, b = tm ∨ b = tc → W'.cell? ⟨b, o, none⟩ = W.cell? ⟨b, o, none⟩
theorem KpF.t {n₀ tm tc : Nat} {A B C : World} (h : KpF n₀ tm tc A B) (k : KpF n₀ tm tc B C) : KpF n₀ tm tc A C := ⟨h.1.trans k.1, fun b o hb => (k.2 b o hb).trans (h.2 b o hb)⟩
theorem KpF.refl (n₀ tm tc : Nat) (A : World) : KpF n₀ tm tc A A := ⟨Below.refl _ _, fun _ _ _ => rfl⟩
theorem KpF.of_below {n₀ tm tc : Nat} {A B : World} (h0 : n₀ ≤ A.heap.size) (h1 : tm < A.heap.size) (h2 : tc < A.heap.size) (h : Below A.heap.size A B) : KpF n₀ tm tc A B :=
  ⟨h.mono h0, fun b o hb => h.cell (p := ⟨b, o, none⟩) (by show b < _; omega)⟩
theorem KpF.b {n₀ tm tc : Nat} {w : World} (hn : n₀ ≤ w.heap.size) (h1 : tm < w.heap.size) (h2 : tc < w.heap.size) (W : World) (l : Nat) (o o' : Obj) (hl : w.heap.size ≤ l) (h : W.heap[l]? = some o) (a : o.isCells = false) (b : o.isWalk = false) : KpF n₀ tm tc W (W.putObj l o') :=
  ⟨belowK_b hn W l o o' hl h a b, fun k i hk => World.cell?_of_block (w := W) (a := ⟨k, i, none⟩) (World.putObj_heap_other (by intro e; dsimp only at e; omega))⟩
theorem KpF.cell {n₀ tm tc : Nat} {W W' : World} (h : KpF n₀ tm tc W W') {b o : Nat} {v : Value} (hb : b = tm ∨ b = tc) (hv : W.cell? ⟨b, o, none⟩ = some v) : W'.cell? ⟨b, o, none⟩ = some v := (h.2 b o hb).trans hv
abbrev Src := (Int × Int) × Int
abbrev srcEnc (x : Src) : Array Value := #[.agg #[.int .i64 x.1.1, .int .i64 x.1.2], .int .i64 x.2]
def cellSrc (g : GridD) (zs : List Int) (k : Nat) : List Src := (List.range k).map fun (j : Nat) => ((cellR g (j : Int), cellZ g (j : Int)), zs[j]?.getD 0)
theorem cellSrc_succ (g : GridD) (zs : List Int) (k : Nat) : cellSrc g zs (k + 1) = cellSrc g zs k ++ [((cellR g (k : Int), cellZ g (k : Int)), zs[k]?.getD 0)] := by simp [cellSrc, List.range_succ]
theorem cellSrc_length (g : GridD) (zs : List Int) (k : Nat) : (cellSrc g zs k).length = k := by simp [cellSrc]
def fluxW (p : Int × Int) : Int → List Src → Int
  | s, [] => s
  | s, x :: r => fluxW p (wrap64 (s + wrap64 (infl p.1 p.2 x.1.1 x.1.2 * x.2))) r
theorem fluxW_snoc (p : Int × Int) (s : Int) (pre : List Src) (x : Src) : fluxW p s (pre ++ [x]) = wrap64 (fluxW p s pre + wrap64 (infl p.1 p.2 x.1.1 x.1.2 * x.2)) := by
  induction pre generalizing s with
  | nil => rfl
  | cons y r ih => exact ih _
set_option maxRecDepth 100000 in
set_option maxHeartbeats 4000000 in
theorem sources1_bare (n : Nat) (hn : 3 ≤ n) (l tm tc n₀ len cap ca cb : Nat) (A B C : Option Addr) (g : GridD) (hg : g.Fine) (zs : List Int) (hl : len ≤ 1000) (J Jx : List Src → World → Prop)
    (hJ : ∀ pre W W', J pre W → Below W.heap.size W W' → J pre W')
    (hY : ∀ pre x W, J pre W → pre.length < len → YieldAt Fence.wide (n - 1) Tryz.prog l (srcEnc x) W fun e W' =>
      (e = .returned (.bool true) ∧ J (pre ++ [x]) W' ∧ KpF n₀ tm tc W W') ∨ (e = .returned (.bool false) ∧ Jx (pre ++ [x]) W'))
    (W : World) (hz : zs.length = len) (hC : 0 < len → ∃ b o : Nat, C = some ⟨b, o, none⟩ ∧ b < n₀ ∧ b < W.heap.size ∧ ∀ j x, zs[j]? = some x → W.cell? ⟨b, o + j, none⟩ = some (.int .i64 x)) (htm : tm < W.heap.size) (htc : tc < W.heap.size) (hn₀ : n₀ ≤ W.heap.size)
    (m1 : W.cell? ⟨tm, 1, none⟩ = some (.slice A 0 ca)) (m2 : W.cell? ⟨tm, 2, none⟩ = some (.slice B 0 cb)) (m4 : W.cell? ⟨tm, 4, none⟩ = some (.int .i64 g.r)) (m5 : W.cell? ⟨tm, 5, none⟩ = some (.int .i64 g.z)) (m6 : W.cell? ⟨tm, 6, none⟩ = some (.int .i64 g.nr)) (m7 : W.cell? ⟨tm, 7, none⟩ = some (.int .i64 g.nz)) (m8 : W.cell? ⟨tm, 8, none⟩ = some (.int .i64 g.step))
    (k2 : W.cell? ⟨tc, 2, none⟩ = some (.slice C len cap)) (h0 : J [] W) :
    CallsIn Fence.wide n Tryz.prog 174 #[.func (.yield l) #[] #[], .pointer (some ⟨tm, 0, none⟩), .pointer (some ⟨tc, 0, none⟩)] W fun e W' => (∃ v, e = .returned v) ∧
      ((∃ ys, ys = cellSrc g zs len ∧ J ys W') ∨ (∃ pre, (∃ k, k ≤ len ∧ pre = cellSrc g zs k) ∧ Jx pre W')) := by
  have HP := Lib.hid (fun (i : Nat) (hi : i < len) W => cellPlace_any g (i : Int) W hg (by omega) (by omega))
  have HJ := Lib.hid hJ
  have HC := Lib.hid hC
  have HS := Lib.hid (fun k => cellSrc_succ g zs k)
  have HL := Lib.hid (fun k => cellSrc_length g zs k)
  clear hJ hC hg
  have h86 : Fence.wide.fn 108 := trivial
  refine callsIn_of_wp Tryz.func174 rfl trivial ?_ rfl
  simp only [Tryz.ntmps174, List.size_toArray, List.length_cons, List.length_nil, Nat.reduceAdd, Nat.reduceSub, Array.replicate_succ, Array.replicate_zero, List.push_toArray, List.append_toArray, List.nil_append, List.cons_append]
  gi_wp2
  gi_loopw [13] (fun i wr => i = .int .i64 0 ∧ wr = W) (fun _ _ => 0)
  case atStart => exact ⟨rfl, rfl⟩
  case round =>
    obtain ⟨rfl, rfl⟩ := hrel
    gi_wp2
    gi_loopw [38] (fun i wx => i = .int .i64 0 ∧ wx = wr) (fun _ _ => 0)
    case atStart => exact ⟨rfl, rfl⟩
    case round =>
      obtain ⟨rfl, rfl⟩ := hrel
      obtain ⟨W0, rfl⟩ : ∃ W0 : World, W0 = wr := ⟨_, rfl⟩
      gi_wp2
      gi_loopw [60] (fun i wx => ∃ k : Nat, k ≤ len ∧ i = .int .i64 k ∧ J (cellSrc g zs k) wx ∧ KpF n₀ tm tc W0 wx ∧ W0.heap.size ≤ wx.heap.size) (fun i _ => len - (intOf i).toNat)
      case atStart => exact ⟨0, Nat.zero_le _, rfl, h0, KpF.refl _ _ _ _, Nat.le_refl _⟩
      case round =>
        obtain ⟨k, hk, rfl, hJs, hnx, hsz⟩ := hrel
        by_cases hlt : k < len
        · obtain ⟨b, o, rfl, hb0, hb1, hcl⟩ := HC.out (by omega)
          obtain ⟨x, hx⟩ : ∃ x, zs[k]? = some x := ⟨_, List.getElem?_eq_getElem (by omega)⟩
          have x0 := (hnx.1.cell (p := ⟨b, o + k, none⟩) hb0).trans (hcl k x hx)
          have y4 := hnx.cell (.inl rfl) m4
          have y5 := hnx.cell (.inl rfl) m5
          have y6 := hnx.cell (.inl rfl) m6
          have y7 := hnx.cell (.inl rfl) m7
          have y8 := hnx.cell (.inl rfl) m8
          have HX : Hid (cellSrc g zs (k + 1) = cellSrc g zs k ++ [((cellR g (k : Int), cellZ g (k : Int)), x)]) := Lib.hid (by rw [HS.out, hx]; rfl)
          have HPk := Lib.hid (HP.out k hlt)
          have HYk := Lib.hid (fun W1 (hJ1 : J (cellSrc g zs k) W1) => hY _ ((cellR g (k : Int), cellZ g (k : Int)), x) W1 hJ1 (by rw [HL.out]; exact hlt))
          clear hcl hx hY
          generalize cellR g (k : Int) = R at *
          generalize cellZ g (k : Int) = Z at *
          gi_wp2_with (refine ⟨fun _ => (by omega), ?_⟩; gi_at_call 108; refine (callsIn_wide.2 (HPk.out _)).mono ?_; rintro e w1 ⟨rfl, hb⟩; have hJ1 := HJ.out _ _ _ hJs hb; have hn1 := KpF.of_below (n₀ := n₀) (tm := tm) (tc := tc) (by omega) (by omega) (by omega) hb; have hs1 := hb.size; obtain ⟨fn, tmps, assign, body, hy, hR⟩ := HYk.out w1 hJ1; simp only [srcEnc] at hy)
          refine ⟨fun _ => (by omega), hR.mono ?_⟩
          clear hR hy
          rintro e W3 (⟨rfl, hJ3, hk3⟩ | ⟨rfl, hJx3⟩)
          · gi_wp2
            go_roundw
            case rel => exact ⟨k + 1, by omega, by go_num, by rw [HX.out]; exact hJ3, hnx.t (hn1.t hk3), by have := hk3.1.size; omega⟩
            case measure => simp [intOf]; omega
          · gi_wp2
            refine bodyPost_ret (results_none rfl _ _ _) rfl ?_
            exact ⟨⟨_, rfl⟩, .inr ⟨_, ⟨k + 1, by omega, HX.out.symm⟩, hJx3⟩⟩
        · obtain rfl : k = len := by omega
          gi_wp2
          go_end0
          exact ⟨⟨_, rfl⟩, .inl ⟨_, rfl, hJs⟩⟩
set_option maxHeartbeats 1000000 in
theorem sources_in (n : Nat) (mc cc : Array Value) (w : World) :
    CallsIn Fence.wide n Tryz.prog 142 #[.agg mc, .agg cc] w fun e w' => e = .returned (.func (.func 174) #[] #[.pointer (some ⟨w.heap.size, 0, none⟩), .pointer (some ⟨w.heap.size + 1, 0, none⟩)]) ∧ w' = (w.alloc (.cells mc 29)).alloc (.cells cc 32) := by
  refine callsIn_of_wp Tryz.func142 rfl trivial ?_ rfl
  simp only [Tryz.ntmps142, List.size_toArray, List.length_cons, List.length_nil, Nat.reduceAdd, Nat.reduceSub, Array.replicate_succ, Array.replicate_zero, List.push_toArray, List.append_toArray, List.nil_append, List.cons_append]
  gi_wp2
  go_ret
  exact ⟨rfl, rfl⟩
end
end Go.Proofs.YtapldonpflgnfaaGreatDoor
