import Derived.Test.YtapldonpflgnfaaGreatDoorKAB
import Derived.Test.YtapldonpflgnfaaGreatDoorKAM
import Derived.Test.YtapldonpflgnfaaGreatDoorKAT
import Derived.Test.YtapldonpflgnfaaGreatDoorKAY
import Derived.Test.YtapldonpflgnfaaGreatDoorKAZ
import Derived.Test.YtapldonpflgnfaaGreatDoorKBC
import Derived.Test.YtapldonpflgnfaaGreatDoorKBL
import Derived.Test.YtapldonpflgnfaaGreatDoorRows
import Derived.KernelRfl
import Derived.Laws.StructEq
namespace Go.Proofs.YtapldonpflgnfaaGreatDoor
set_option linter.unusedVariables false
set_option linter.unusedSimpArgs false
section
open Go.RowKit
theorem sxf_bl_apiSpan_ : ∀ w, (Instr.build 41 #[]).run Tryz.prog w = .ok (.agg #[(.int .i64 0), (.int .i64 0)]) w := by
  intro w; simp [Instr.build, Instr.fill, cells_agg, Tryz.runUnderlying41, Tryz.zeroValue41, Tryz.sizeOf3]
set_option maxRecDepth 100000 in
theorem callowed9_any (R : MachR) (M : MachD) (Q : CurR) (C : CurD) (F : Option Addr) (nf cf : Nat) (zs : List SpanD) (s cell : Int) (w : World) (hM : IsM w R M) (hC : IsC w Q C) (hF : IsT 2 SpanD.cells w F nf zs) (hn : nf ≤ 1000000000000000) (i0 : -9223372036854775808 ≤ s) (i1 : s ≤ 9223372036854775807) : Calls Tryz.prog 10 #[(.agg (machCells R M)), Q.v, (.slice F nf cf), (.int .i64 s), (.int .i64 cell)] w (Ret (.tuple #[.agg #[.int .i64 (aldL M C zs s cell).1, .int .i64 (aldL M C zs s cell).2.1], .int .i64 (aldL M C zs s cell).2.2]) w) := by
  refine calls_ax (vs := [(.agg (machCells R M)), Q.v, (.slice F nf cf), (.int .i64 s), (.int .i64 cell)]) Tryz.func10 rfl rfl ?_
  refine ac_seq (ac_region ?_)
  refine al_new (fun b => .pointer (some ⟨b, 0, none⟩)) (r_box rfl rfl) rfl rfl rfl ?_
  intro b1
  refine al_new (fun b => .pointer (some ⟨b, 0, none⟩)) (r_box rfl rfl) rfl rfl rfl ?_
  intro b2
  refine al_new (fun b => .pointer (some ⟨b, 0, none⟩)) (r_alloc Tryz.zeroValue41 rfl) rfl rfl rfl ?_
  intro b3
  refine al_p (q_assign rfl) ?_
  refine al_end (aq_then ?_)
  refine ac_seq ?_
  refine ac_seq (ac_region ?_)
  refine al_p (q_loadAll (i := 2) rfl rfl Tryz.isAgg29 Tryz.sizeOf29 rfl) ?_
  refine al_p (q_loadAll (i := 1) rfl rfl Tryz.isAgg32 Tryz.sizeOf32 rfl) ?_
  refine al_p (q_move rfl) ?_
  refine al_call Tryz.call27 (.cons rfl (.cons rfl (.cons rfl .nil))) rfl rfl (fun w1 hs1 => ?_)
  refine (explainable_any R M Q C F nf cf zs _ (hM.below hs1.below) (hC.below hs1.below) (hF.below hs1.below) hn).mono ?_
  rintro e u1 ⟨rfl, hb_1⟩
  refine ⟨_, rfl, hb_1, ?_⟩
  clear hs1
  refine al_p (q_not rfl) ?_
  refine al_end (aq_then ?_)
  refine ac_cond rfl (fun h1 => ?_) (fun h1 => ?_)
  · have hE : explB M C zs = false := by simpa using h1
    refine ac_seq (ac_region ?_)
    refine al_p (q_build .nil (sxf_bl_apiSpan_)) ?_
    refine al_storeAll (i := 0) rfl rfl rfl rfl Tryz.sizeOf41 rfl rfl .k0 rfl ?_
    refine al_p (q_assign rfl) ?_
    refine al_end (aq_then ?_)
    refine ac_ret ?_
    refine aq_thenR ?_
    refine retR Tryz.results10 (.agg (i := 0) rfl rfl Tryz.isAgg41 Tryz.sizeOf41 rfl (.tmp rfl .nil)) .two (fun w9 hs => ?_)
    refine ⟨?_, hs.below⟩; unfold aldL; rw [if_neg (by rw [hE]; decide)]
  · have he : explB M C zs = true := by simpa using h1
    have hexp := explB_iff.1 he
    obtain ⟨hv, hzl, hzs⟩ := hexp
    have hvc := fit2_iff.2 hv
    have hs0 := sound_of hv.check
    have hg := cells_fine hs0.grid
    have hsn := hs0.sensors.1
    have hld := hM.sensors.1
    have hnz := hF.1
    have hcp := hv.plasma.1
    have qc := hC.plasma.1
    have hkc := hC.kc
    have hcn : cellsN M = M.grid.nr * M.grid.nz := by simp [cellsN, hv.check]
    refine ac_skip ?_
    refine aq_then ?_
    refine ac_seq (ac_region ?_)
    refine al_p (q_loadAll (i := 2) rfl rfl Tryz.isAgg29 Tryz.sizeOf29 rfl) ?_
    refine al_p (q_move rfl) ?_
    refine al_p (q_move rfl) ?_
    refine al_call Tryz.call28 (.cons rfl (.cons rfl (.cons rfl .nil))) rfl rfl (fun w2 hs2 => ?_)
    refine (response_any R M s cell _ (hM.below hs2.below)).mono ?_
    rintro e u2 ⟨rfl, hb_2⟩
    refine ⟨_, rfl, hb_2, ?_⟩
    clear hs2
    refine al_p (q_move rfl) ?_
    refine al_p (q_extract rfl rfl) ?_
    refine al_p (q_extract rfl rfl) ?_
    refine al_p (q_assign rfl) ?_
    refine al_p (q_assign rfl) ?_
    refine al_end (aq_then ?_)
    refine ac_seq ?_
    refine ac_seq (ac_region ?_)
    refine al_p (q_move rfl) ?_
    refine al_p (q_neq rfl rfl) ?_
    refine al_end (aq_then ?_)
    refine ac_cond rfl (fun h2 => ?_) (fun h2 => ?_)
    · have hr0 : ¬ (respL M s cell).2 = 0 := by simpa using h2
      refine ac_seq (ac_region ?_)
      refine al_p (q_build .nil (sxf_bl_apiSpan_)) ?_
      refine al_p (q_move rfl) ?_
      refine al_storeAll (i := 0) rfl rfl rfl rfl Tryz.sizeOf41 rfl rfl .k0 rfl ?_
      refine al_p (q_assign rfl) ?_
      refine al_end (aq_then ?_)
      refine ac_ret ?_
      refine aq_thenR ?_
      refine retR Tryz.results10 (.agg (i := 0) rfl rfl Tryz.isAgg41 Tryz.sizeOf41 rfl (.tmp rfl .nil)) .two (fun w9 hs => ?_)
      refine ⟨?_, hs.below⟩; unfold aldL; rw [if_pos he, if_neg hr0]
    · have hr0 : (respL M s cell).2 = 0 := by simpa using h2
      obtain ⟨_, hw1, _⟩ := respL_in hr0
      have hwb1 := wthn_iff.1 hw1
      obtain ⟨b11, o11, hA1, hlt1, hget1⟩ := hF.2 (by omega)
      have hx1 := getD_get (l := zs) (d := ⟨0, 0⟩) (k := s.toNat) (by omega)
      have hv9 := vld_iff.1 (hzs _ (List.mem_of_getElem? hx1))
      refine ac_skip ?_
      refine aq_then ?_
      refine ac_seq (ac_region ?_)
      refine al_p (q_loadAll (i := 2) rfl rfl Tryz.isAgg29 Tryz.sizeOf29 rfl) ?_
      refine al_p (q_loadAll (i := 1) rfl rfl Tryz.isAgg32 Tryz.sizeOf32 rfl) ?_
      refine al_p (q_move rfl) ?_
      refine al_call Tryz.call29 (.cons rfl (.cons rfl (.cons rfl .nil))) rfl rfl (fun w3 hs3 => ?_)
      refine (background_any R M Q C s _ (hM.below hs3.below) (hC.below hs3.below) i0 i1).mono ?_
      rintro e u3 ⟨rfl, hb_3⟩
      refine ⟨_, rfl, hb_3, ?_⟩
      clear hs3
      refine al_p (q_move rfl) ?_
      refine al_p (q_extract rfl rfl) ?_
      refine al_p (q_extract rfl rfl) ?_
      refine al_p (q_assign rfl) ?_
      refine al_p (q_assign rfl) ?_
      refine al_end (aq_then ?_)
      refine ac_seq (ac_region ?_)
      refine al_p (q_move rfl) ?_
      refine al_p (q_move rfl) ?_
      refine al_p (q_indexAddrA (i := s.toNat) (o11 + s.toNat * 2 + 0) hA1 rfl rfl (by omega) (by omega) Tryz.runUnderlying33 Tryz.sizeOf41 rfl) ?_
      refine al_p (q_loadXs (SpanD.cells (zs.getD s.toNat ⟨0, 0⟩)) rfl Tryz.isAgg41 Tryz.sizeOf41 (fun w9 hs j9 v9 h9 => by rw [addr_add]; exact (hs.below.cell (p := ⟨_, _, none⟩) hlt1).trans ((hget1 s.toNat _ hx1) j9 v9 h9)) rfl) ?_
      refine al_p (q_move rfl) ?_
      refine al_p (q_move rfl) ?_
      refine al_call Tryz.call30 (.cons rfl (.cons rfl (.cons rfl .nil))) rfl rfl (fun w4 hs4 => ?_)
      refine (allowed_any (zs.getD s.toNat ⟨0, 0⟩).lo (zs.getD s.toNat ⟨0, 0⟩).hi (backL M C s).1 (respL M s cell).1 _ hv9.2.1 (by omega) (by omega) hv9.2.2 (backL_bd M C _).1 (backL_bd M C _).2 (respL_bd M _ _).1 (respL_bd M _ _).2).mono ?_
      rintro e u4 ⟨rfl, hb_4⟩
      refine ⟨_, rfl, hb_4, ?_⟩
      clear hs4
      refine al_new (fun b => .pointer (some ⟨b, 0, none⟩)) (r_alloc Tryz.zeroValue41 rfl) rfl rfl rfl ?_
      intro b4
      refine al_storeAll (i := 0) rfl rfl rfl rfl Tryz.sizeOf41 rfl rfl .k0 rfl ?_
      refine al_end (aq_then ?_)
      refine ac_seq ?_
      refine ac_seq (ac_region ?_)
      refine al_p (q_loadAll (i := 0) rfl rfl Tryz.isAgg41 Tryz.sizeOf41 rfl) ?_
      refine al_call Tryz.call31 (.cons rfl .nil) rfl rfl (fun w5 hs5 => ?_)
      refine (valid_any (allowL (zs.getD s.toNat ⟨0, 0⟩).lo (zs.getD s.toNat ⟨0, 0⟩).hi (backL M C s).1 (respL M s cell).1).1 (allowL (zs.getD s.toNat ⟨0, 0⟩).lo (zs.getD s.toNat ⟨0, 0⟩).hi (backL M C s).1 (respL M s cell).1).2 _).mono ?_
      rintro e u5 ⟨rfl, hb_5⟩
      refine ⟨_, rfl, hb_5, ?_⟩
      clear hs5
      refine al_p (q_not rfl) ?_
      refine al_end (aq_then ?_)
      refine ac_cond rfl (fun h3 => ?_) (fun h3 => ?_)
      · have hok : vld (allowL (zs.getD s.toNat ⟨0, 0⟩).lo (zs.getD s.toNat ⟨0, 0⟩).hi (backL M C s).1 (respL M s cell).1).1 (allowL (zs.getD s.toNat ⟨0, 0⟩).lo (zs.getD s.toNat ⟨0, 0⟩).hi (backL M C s).1 (respL M s cell).1).2 = false := by simpa using h3
        refine ac_seq (ac_region ?_)
        refine al_p (q_build .nil (sxf_bl_apiSpan_)) ?_
        refine al_storeAll (i := 1) rfl rfl rfl rfl Tryz.sizeOf41 rfl rfl .k1 rfl ?_
        refine al_p (q_assign rfl) ?_
        refine al_end (aq_then ?_)
        refine ac_ret ?_
        refine aq_thenR ?_
        refine retR Tryz.results10 (.agg (i := 1) rfl rfl Tryz.isAgg41 Tryz.sizeOf41 rfl (.tmp rfl .nil)) .two (fun w9 hs => ?_)
        refine ⟨?_, hs.below⟩; unfold aldL; rw [if_pos he, if_pos hr0, if_neg (by rw [hok]; decide)]
      · have hok : vld (allowL (zs.getD s.toNat ⟨0, 0⟩).lo (zs.getD s.toNat ⟨0, 0⟩).hi (backL M C s).1 (respL M s cell).1).1 (allowL (zs.getD s.toNat ⟨0, 0⟩).lo (zs.getD s.toNat ⟨0, 0⟩).hi (backL M C s).1 (respL M s cell).1).2 = true := by simpa using h3
        refine ac_skip ?_
        refine aq_then ?_
        refine ac_seq (ac_region ?_)
        refine al_p (q_loadAll (i := 0) rfl rfl Tryz.isAgg41 Tryz.sizeOf41 rfl) ?_
        refine al_storeAll (i := 1) rfl rfl rfl rfl Tryz.sizeOf41 rfl rfl .k1 rfl ?_
        refine al_p (q_assign rfl) ?_
        refine al_end (aq_then ?_)
        refine ac_ret ?_
        refine retR Tryz.results10 (.agg (i := 1) rfl rfl Tryz.isAgg41 Tryz.sizeOf41 rfl (.tmp rfl .nil)) .two (fun w9 hs => ?_)
        refine ⟨?_, hs.below⟩; unfold aldL; rw [if_pos he, if_pos hr0, if_pos hok]
end
section
open Go.RowKit Go.Shelf
def briefB (la lb lc ld p q s n : Nat) : Bool := (decide (la ≤ 40) && (decide (lb ≤ 40) && (decide (lc ≤ 40) && (decide (ld ≤ 60) && (decide (p ≤ 100) && (decide (q ≤ 100) && (decide (s ≤ 200) && decide (n ≤ 100))))))))
set_option maxRecDepth 100000 in
set_option maxHeartbeats 4000000 in
theorem brief_any (name : ByteArray) (A B C D : Option Addr) (la ca lb cb lc cc ld cd : Nat) (r z nr nz step : Int) (P Q S F : Option Addr) (p pc q qc s sc n nc : Nat) (w : World) :
    Calls Tryz.prog 23 #[.agg #[.string name, .slice A la ca, .slice B lb cb, .slice C lc cc, .int .i64 r, .int .i64 z, .int .i64 nr, .int .i64 nz, .int .i64 step, .slice D ld cd], .agg #[.slice P p pc, .slice Q q qc, .slice S s sc], .slice F n nc] w (Ret (.bool (briefB la lb lc ld p q s n)) w) := by
  have HE : Hid (briefB la lb lc ld p q s n = (decide (la ≤ 40) && (decide (lb ≤ 40) && (decide (lc ≤ 40) && (decide (ld ≤ 60) && (decide (p ≤ 100) && (decide (q ≤ 100) && (decide (s ≤ 200) && decide (n ≤ 100))))))))) := Lib.hid rfl
  generalize briefB la lb lc ld p q s n = G at *
  by_cases k0 : la ≤ 40
  rotate_left
  · have HF : Hid (false = G) := Lib.hid (by rw [HE.out, decide_eq_false k0]; simp)
    clear HE
    go_enter Tryz.func23, Tryz.ntmps23
    go_wp2_with fail
    go_ret
    exact ⟨by rw [← HF.out]; rfl, by (repeat first | with_reducible exact Below.refl _ _ | (with_reducible refine Below.alloc ?_ ?_ _; rotate_left; exact (by first | omega | (simp; done))))⟩
  by_cases k1 : lb ≤ 40
  rotate_left
  · have HF : Hid (false = G) := Lib.hid (by rw [HE.out, decide_eq_false k1]; simp)
    clear HE
    go_enter Tryz.func23, Tryz.ntmps23
    go_wp2_with fail
    go_ret
    exact ⟨by rw [← HF.out]; rfl, by (repeat first | with_reducible exact Below.refl _ _ | (with_reducible refine Below.alloc ?_ ?_ _; rotate_left; exact (by first | omega | (simp; done))))⟩
  by_cases k2 : lc ≤ 40
  rotate_left
  · have HF : Hid (false = G) := Lib.hid (by rw [HE.out, decide_eq_false k2]; simp)
    clear HE
    go_enter Tryz.func23, Tryz.ntmps23
    go_wp2_with fail
    go_ret
    exact ⟨by rw [← HF.out]; rfl, by (repeat first | with_reducible exact Below.refl _ _ | (with_reducible refine Below.alloc ?_ ?_ _; rotate_left; exact (by first | omega | (simp; done))))⟩
  by_cases k3 : ld ≤ 60
  rotate_left
  · have HF : Hid (false = G) := Lib.hid (by rw [HE.out, decide_eq_false k3]; simp)
    clear HE
    go_enter Tryz.func23, Tryz.ntmps23
    go_wp2_with fail
    go_ret
    exact ⟨by rw [← HF.out]; rfl, by (repeat first | with_reducible exact Below.refl _ _ | (with_reducible refine Below.alloc ?_ ?_ _; rotate_left; exact (by first | omega | (simp; done))))⟩
  by_cases k4 : p ≤ 100
  rotate_left
  · have HF : Hid (false = G) := Lib.hid (by rw [HE.out, decide_eq_false k4]; simp)
    clear HE
    go_enter Tryz.func23, Tryz.ntmps23
    go_wp2_with fail
    go_ret
    exact ⟨by rw [← HF.out]; rfl, by (repeat first | with_reducible exact Below.refl _ _ | (with_reducible refine Below.alloc ?_ ?_ _; rotate_left; exact (by first | omega | (simp; done))))⟩
  by_cases k5 : q ≤ 100
  rotate_left
  · have HF : Hid (false = G) := Lib.hid (by rw [HE.out, decide_eq_false k5]; simp)
    clear HE
    go_enter Tryz.func23, Tryz.ntmps23
    go_wp2_with fail
    go_ret
    exact ⟨by rw [← HF.out]; rfl, by (repeat first | with_reducible exact Below.refl _ _ | (with_reducible refine Below.alloc ?_ ?_ _; rotate_left; exact (by first | omega | (simp; done))))⟩
  by_cases k6 : s ≤ 200
  rotate_left
  · have HF : Hid (false = G) := Lib.hid (by rw [HE.out, decide_eq_false k6]; simp)
    clear HE
    go_enter Tryz.func23, Tryz.ntmps23
    go_wp2_with fail
    go_ret
    exact ⟨by rw [← HF.out]; rfl, by (repeat first | with_reducible exact Below.refl _ _ | (with_reducible refine Below.alloc ?_ ?_ _; rotate_left; exact (by first | omega | (simp; done))))⟩
  by_cases k7 : n ≤ 100
  rotate_left
  · have HF : Hid (false = G) := Lib.hid (by rw [HE.out, decide_eq_false k7]; simp)
    clear HE
    have dn : decide ((n : Int) ≤ 100) = false := decide_eq_false (by omega)
    go_enter Tryz.func23, Tryz.ntmps23
    go_wp2_with fail
    go_ret
    exact ⟨by rw [← HF.out]; rfl, by (repeat first | with_reducible exact Below.refl _ _ | (with_reducible refine Below.alloc ?_ ?_ _; rotate_left; exact (by first | omega | (simp; done))))⟩
  have HF : Hid (true = G) := Lib.hid (by rw [HE.out, decide_eq_true k0, decide_eq_true k1, decide_eq_true k2, decide_eq_true k3, decide_eq_true k4, decide_eq_true k5, decide_eq_true k6, decide_eq_true k7]; rfl)
  clear HE
  have dn : decide ((n : Int) ≤ 100) = true := decide_eq_true (by omega)
  go_enter Tryz.func23, Tryz.ntmps23
  go_wp2_with fail
  go_ret
  exact ⟨by rw [← HF.out]; rfl, by (repeat first | with_reducible exact Below.refl _ _ | (with_reducible refine Below.alloc ?_ ?_ _; rotate_left; exact (by first | omega | (simp; done))))⟩
theorem brief_bd {la lb lc ld p q s n : Nat} (h : briefB la lb lc ld p q s n = true) : la ≤ 40 ∧ lb ≤ 40 ∧ lc ≤ 40 ∧ ld ≤ 60 ∧ p ≤ 100 ∧ q ≤ 100 ∧ s ≤ 200 ∧ n ≤ 100 := by
  simpa [briefB, Bool.and_eq_true, decide_eq_true_iff] using h
end
section
open Go.RowKit Go.Shelf
theorem same_drop {xs ys : List Int} {k : Nat} {a b : Int} (h1 : xs[k]? = some a) (h2 : ys[k]? = some b) : decide (xs.drop k = ys.drop k) = (decide (a = b) && decide (xs.drop (k + 1) = ys.drop (k + 1))) := by
  obtain ⟨k1, rfl⟩ := List.getElem?_eq_some_iff.1 h1
  obtain ⟨k2, rfl⟩ := List.getElem?_eq_some_iff.1 h2
  rw [List.drop_eq_getElem_cons k1, List.drop_eq_getElem_cons k2]
  simp only [List.cons.injEq, Bool.decide_and]
set_option maxRecDepth 100000 in
set_option maxHeartbeats 4000000 in
theorem rsame_any (A B : Option Addr) (la ca lb cb : Nat) (xs ys : List Int) (w : World) (h1 : IsT 1 intCells w A la xs) (h2 : IsT 1 intCells w B lb ys) (l1 : la ≤ 1000000000000000) (l2 : lb ≤ 1000000000000000) :
    Calls Tryz.prog 14 #[.slice A la ca, .slice B lb cb] w (Ret (.bool (decide (xs = ys))) w) := by
  have n1 := h1.1
  have n2 := h2.1
  have I1 := Lib.hid h1
  have I2 := Lib.hid h2
  have HG : Hid (decide (xs = ys) = decide (xs.drop 0 = ys.drop 0)) := Lib.hid rfl
  have HN : Hid (la ≠ lb → false = decide (xs = ys)) := Lib.hid (fun h => (decide_eq_false (fun e => h (by rw [← n1, ← n2, e]))).symm)
  clear h1 h2
  generalize decide (xs = ys) = G at *
  by_cases b1 : la = lb
  · have e1 := (int_eq la lb).trans (decide_eq_true b1)
    subst b1
    have HG2 : Hid (decide (xs.drop 0 = ys.drop 0) = G) := Lib.hid HG.out.symm
    clear HG HN
    go_enter Tryz.func14, Tryz.ntmps14
    go_wp2_with fail
    go_loopw [5] (fun i wr => ∃ j : Nat, j ≤ la ∧ i = .int .i64 j ∧ Hid (decide (xs.drop j = ys.drop j) = G) ∧ Below w.heap.size w wr) (fun i _ => la - (intOf i).toNat)
    case atStart => exact ⟨0, Nat.zero_le _, rfl, HG2, by (repeat with_reducible exact Below.refl _ _)⟩
    case round =>
      obtain ⟨j, hj, rfl, hG, hB⟩ := hrel
      have sz0 := hB.size
      by_cases hlt : j < la
      · obtain ⟨-, hcl1⟩ := I1.out.below hB
        obtain ⟨b1, o1, rfl, hb1, hcl1⟩ := hcl1 (by omega)
        obtain ⟨-, hcl2⟩ := I2.out.below hB
        obtain ⟨b2, o2, rfl, hb2, hcl2⟩ := hcl2 (by omega)
        obtain ⟨x, hx⟩ : ∃ x, xs[j]? = some x := ⟨_, List.getElem?_eq_getElem (by omega)⟩
        obtain ⟨y, hy⟩ : ∃ y, ys[j]? = some y := ⟨_, List.getElem?_eq_getElem (by omega)⟩
        have x0 : wr.cell? ⟨b1, o1 + j, none⟩ = some (.int .i64 x) := by have h := hcl1 j x hx 0 _ rfl; simpa using h
        have y0 : wr.cell? ⟨b2, o2 + j, none⟩ = some (.int .i64 y) := by have h := hcl2 j y hy 0 _ rfl; simpa using h
        have HS := Lib.hid (hG.out.symm.trans (same_drop hx hy))
        clear hcl1 hcl2 hx hy hG
        have HZ : Hid (∀ w' : World, Below wr.heap.size wr w' → (Below wr.heap.size wr w' ∧ w'.cell? ⟨b1, o1 + j, none⟩ = some (.int .i64 x) ∧ w'.cell? ⟨b2, o2 + j, none⟩ = some (.int .i64 y))) := Lib.hid (fun w' h => ⟨h, (h.cell (p := ⟨b1, o1 + j, none⟩) hb1).trans x0, (h.cell (p := ⟨b2, o2 + j, none⟩) hb2).trans y0⟩)
        have jc : (0 : Int) ≤ j := by omega
        have jn : ((j : Int)).toNat = j := by omega
        by_cases e : x = y
        · have e2 : (x == y) = true := by rw [e]; simp
          have HT : Hid (decide (xs.drop (j + 1) = ys.drop (j + 1)) = G) := Lib.hid (by rw [HS.out, decide_eq_true e, Bool.true_and])
          clear HS
          go_wp2_with fail
          go_region_held3 (fun w' => Below wr.heap.size wr w' ∧ w'.cell? ⟨b1, o1 + j, none⟩ = some (.int .i64 x) ∧ w'.cell? ⟨b2, o2 + j, none⟩ = some (.int .i64 y)) (exact HZ.out _ (by (repeat first | with_reducible exact Below.refl _ _ | with_reducible refine Below.drew ?_))) (fail)
          all_goals go_wp2_with fail
          go_roundw
          case rel => exact ⟨j + 1, by omega, by go_num, HT, by (repeat first | with_reducible assumption | with_reducible refine Below.drew ?_)⟩
          case measure => simp [intOf]; omega
        · have e2 : (x == y) = false := by rw [beq_eq_false_iff_ne]; exact e
          have HT : Hid (false = G) := Lib.hid (by rw [HS.out, decide_eq_false e, Bool.false_and])
          clear HS
          go_wp2_with fail
          go_region_held3 (fun w' => Below wr.heap.size wr w' ∧ w'.cell? ⟨b1, o1 + j, none⟩ = some (.int .i64 x) ∧ w'.cell? ⟨b2, o2 + j, none⟩ = some (.int .i64 y)) (exact HZ.out _ (by (repeat first | with_reducible exact Below.refl _ _ | with_reducible refine Below.drew ?_))) (fail)
          all_goals go_wp2_with fail
          go_ret
          exact ⟨by rw [← HT.out]; rfl, by (repeat first | with_reducible assumption | with_reducible refine Below.drew ?_)⟩
      · have HT : Hid (true = G) := Lib.hid (by
          have h := hG.out
          rw [List.drop_of_length_le (by omega), List.drop_of_length_le (by omega)] at h
          exact h)
        clear hG
        go_wp2_with fail
        go_ret
        exact ⟨by rw [← HT.out]; rfl, by (repeat with_reducible assumption)⟩
  · have e1 := (int_eq la lb).trans (decide_eq_false b1)
    have HT := Lib.hid (HN.out b1)
    clear HG HN
    go_enter Tryz.func14, Tryz.ntmps14
    go_wp2_with fail
    go_ret
    exact ⟨by rw [← HT.out]; rfl, by (repeat with_reducible exact Below.refl _ _)⟩
end
section
open Go.RowKit Go.Shelf
structure Reg3 (x y z : Nat) (W w' : World) : Prop where
  os : w'.os = W.os
  tape : w'.tape = W.tape
  output : w'.output = W.output
  size : W.heap.size ≤ w'.heap.size
  block : ∀ k, k < W.heap.size → k ≠ x → k ≠ y → k ≠ z → w'.heap[k]? = W.heap[k]?
  some : ∀ b o, b < W.heap.size → (w'.cell? ⟨b, o, none⟩).isSome = (W.cell? ⟨b, o, none⟩).isSome
  frozen : ∀ b o, b < W.heap.size → w'.frozen? ⟨b, o, none⟩ = W.frozen? ⟨b, o, none⟩
theorem Reg3.refl (x y z : Nat) (W : World) : Reg3 x y z W W := ⟨rfl, rfl, rfl, Nat.le_refl _, fun _ _ _ _ _ => rfl, fun _ _ _ => rfl, fun _ _ _ => rfl⟩
theorem Reg3.cells {x y z : Nat} {W w1 : World} (h : Reg3 x y z W w1) : ∀ b o, b < W.heap.size → b ≠ x → b ≠ y → b ≠ z → w1.cell? ⟨b, o, none⟩ = W.cell? ⟨b, o, none⟩ := fun b o hb hx hy hz => World.cell?_of_block (w := W) (a := ⟨b, o, none⟩) (h.block b hb hx hy hz)
theorem Reg3.drew {x y z : Nat} {W w1 : World} (h : Reg3 x y z W w1) : Reg3 x y z W w1.drew :=
  ⟨h.os, h.tape, h.output, h.size, h.block, fun b o hb => by rw [World.cell?_drew]; exact h.some b o hb, fun b o hb => by rw [World.frozen?_drew]; exact h.frozen b o hb⟩
theorem Reg3.call {x y z : Nat} {W w1 w2 : World} (h : Reg3 x y z W w1) (hb : Below w1.heap.size w1 w2) : Reg3 x y z W w2 :=
  ⟨hb.os.trans h.os, hb.tape.trans h.tape, hb.output.trans h.output, Nat.le_trans h.size hb.size, fun k hk hx hy hz => (hb.block k (Nat.lt_of_lt_of_le hk h.size)).trans (h.block k hk hx hy hz),
    fun b o hw => by rw [hb.cell (p := ⟨b, o, none⟩) (Nat.lt_of_lt_of_le hw h.size)]; exact h.some b o hw, fun b o hw => by rw [hb.frozen (p := ⟨b, o, none⟩) (Nat.lt_of_lt_of_le hw h.size)]; exact h.frozen b o hw⟩
theorem Reg3.alloc {x y z : Nat} {W w1 : World} (h : Reg3 x y z W w1) (o : Obj) : Reg3 x y z W (w1.alloc o) :=
  h.call ((Below.refl _ _).alloc (Nat.le_refl _) o)
theorem Reg3.setCell {x y z : Nat} {W w1 : World} (h : Reg3 x y z W w1) {p : Addr} (hp : p.block = x ∨ p.block = y ∨ p.block = z ∨ W.heap.size ≤ p.block) (v : Value) : Reg3 x y z W (w1.setCell p v) :=
  ⟨h.os, h.tape, h.output, by rw [World.size_setCell]; exact h.size, fun k hk hx hy hz => (Below.heap_setCell _ _ _ _ (by omega)).trans (h.block k hk hx hy hz),
    fun b o hw => by rw [isSome_setCell]; exact h.some b o hw, fun b o hw => by rw [World.frozen?_setCell]; exact h.frozen b o hw⟩
theorem Reg3.drewN {x y z : Nat} {W w1 : World} (h : Reg3 x y z W w1) (n : Nat) : Reg3 x y z W (w1.drewN n) :=
  ⟨h.os, h.tape, h.output, h.size, h.block, fun b o hb => h.some b o hb, fun b o hb => h.frozen b o hb⟩
theorem Reg3.drewN2 (x y z : Nat) (W : World) (n m : Nat) : Reg3 x y z (W.drewN n) (W.drewN m) := ⟨rfl, rfl, rfl, Nat.le_refl _, fun _ _ _ _ _ => rfl, fun _ _ _ => rfl, fun _ _ _ => rfl⟩
theorem Reg3.out {x y z : Nat} {w W w1 : World} (h : Reg3 x y z W w1) (h0 : Below w.heap.size w W) (hx : w.heap.size ≤ x) (hy : w.heap.size ≤ y) (hz : w.heap.size ≤ z) : Below w.heap.size w w1 :=
  ⟨h.os.trans h0.os, h.tape.trans h0.tape, h.output.trans h0.output, Nat.le_trans h0.size h.size, fun k hk => (h.block k (Nat.lt_of_lt_of_le hk h0.size) (by omega) (by omega) (by omega)).trans (h0.block k hk)⟩
structure St where
  (r1 r2 z1 z2 c1 c2 : Int)
def St.zero : St := ⟨0, 0, 0, 0, 0, 0⟩
def St.hull (s : St) (X Y lo hi : Int) : St := ⟨min s.r1 X, max s.r2 X, min s.z1 Y, max s.z2 Y, min s.c1 lo, max s.c2 hi⟩
def St.ok (s : St) : Bool := vld s.r1 s.r2 && (vld s.z1 s.z2 && vld s.c1 s.c2)
end
end Go.Proofs.YtapldonpflgnfaaGreatDoor
