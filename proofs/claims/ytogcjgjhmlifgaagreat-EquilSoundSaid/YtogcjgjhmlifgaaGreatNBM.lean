import Derived.Test.YtogcjgjhmlifgaaGreatNAA
import Derived.Test.YtogcjgjhmlifgaaGreatNAE
import Derived.Test.YtogcjgjhmlifgaaGreatNAG
import Derived.Test.YtogcjgjhmlifgaaGreatNBK
import Derived.Test.YtogcjgjhmlifgaaGreatNBL
import Derived.Test.YtogcjgjhmlifgaaGreatRows
import Derived.KernelRfl
import Derived.Laws.StructEq
import Derived.ProofKit
import Derived.OpenShut
import Derived.Lib.SmallJoins
import Derived.Deep.Slices
import Derived.Carry
namespace Go.Proofs.YtogcjgjhmlifgaaGreat
set_option linter.unusedVariables false
set_option linter.unusedSimpArgs false
section
open Go.RowKit
theorem holdsY (X : Option Addr) (nx cx : Nat) (xs : List SpanD) (J : Option Addr) (cj : Nat) (js : List Int) (w : World) (hS : IsT 2 SpanD.cells w X nx xs) (hJ : IsT 1 intCells w J nx js) (hn : nx ≤ 1000) (hb : ∀ k, k < nx → (spA xs k).lo ≤ iA js k ∧ iA js k ≤ (spA xs k).hi) : Calls Tryz.prog 23 #[.slice X nx cx, .slice J nx cj] w (Ret (.bool true) w) := by
  have h := holds5_any X nx cx xs J nx cj js w hS hJ (by omega)
  rwa [decide_eq_true (show nx = nx ∧ hdP xs js nx from ⟨rfl, fun k hk => wthn_iff.2 (hb k hk)⟩)] at h
theorem fit_up {M : MachD} {t u : Int} {xs : List SpanD} (h : FitX M t xs) (hu : t ≤ u) : FitX M u xs := ⟨h.check, h.len, fun a ha => by have := h.each a ha; omega⟩
theorem side_in {M : MachD} {C : CurD} {xs ys : List SpanD} (h : InX ys xs (cellN M)) {k : Nat} (h1 : sdA M C xs k = 1) : 0 < (exA M C ys k).lo := by
  have m1 := flS_mono (C := C) h (cellP M k)
  have m2 := bdS_mono (C := C) h
  unfold sdA at h1
  split at h1
  · show 0 < max 0 _
    omega
  · split at h1 <;> cases h1
theorem side_out {M : MachD} {C : CurD} {xs ys : List SpanD} (h : InX ys xs (cellN M)) (hp : (flS M C ys (cellP M 0)).lo = (flS M C ys (cellP M 0)).lo) {k : Nat} (hle : (flS M C ys (cellP M k)).lo ≤ (flS M C ys (cellP M k)).hi) (hbe : (bdS M C ys).lo ≤ (bdS M C ys).hi) (h0 : sdA M C xs k = 0) : (exA M C ys k).lo = 0 := by
  have m1 := flS_mono (C := C) h (cellP M k)
  have m2 := bdS_mono (C := C) h
  unfold sdA at h0
  split at h0
  · cases h0
  · split at h0
    · show max 0 _ = 0
      omega
    · cases h0
theorem exLo_mono {M : MachD} {C : CurD} {xs ys : List SpanD} (h : InX ys xs (cellN M)) : exLo M C xs ≤ exLo M C ys := dotTo_le _ (fun k _ => (exA_mono h k).1)
theorem imE_cases (M : MachD) (C : CurD) (xs : List SpanD) : imE M C xs = 0 ∧ exLo M C xs ≠ 0 ∨ imE M C xs = 8 := by
  unfold imE
  by_cases h : exLo M C xs = 0
  · rw [if_pos h]; exact Or.inr rfl
  · rw [if_neg h]; exact Or.inl ⟨rfl, h⟩
set_option maxRecDepth 100000 in
theorem boxed_any (R : MachR) (M : MachD) (Q : CurR) (C : CurD) (g : Int) (X : Option Addr) (nx cx : Nat) (xs : List SpanD) (w : World) (hM : IsM w R M) (hC : IsC w Q C) (hS : IsT 2 SpanD.cells w X nx xs) : Calls Tryz.prog 35 #[(.agg #[.string M.name, .slice R.A R.la R.ca, .slice R.B R.lb R.cb, .slice R.C R.lc R.cc, .int .i64 M.grid.r, .int .i64 M.grid.z, .int .i64 M.grid.nr, .int .i64 M.grid.nz, .int .i64 M.grid.step, .slice R.D R.ld R.cd, .slice Q.A Q.la Q.ca, .slice Q.B Q.lb Q.cb, .slice Q.C Q.lc Q.cc, .int .i64 g]), (.slice X nx cx)] w (fun e w' => ∃ b : Bool, e = .returned (.bool b) ∧ (b = true → validC M C = true ∧ 1 ≤ g ∧ g ≤ 1000000 ∧ boxB M g xs = true) ∧ Below w.heap.size w w') := by
  refine calls_ax (vs := [(.agg #[.string M.name, .slice R.A R.la R.ca, .slice R.B R.lb R.cb, .slice R.C R.lc R.cc, .int .i64 M.grid.r, .int .i64 M.grid.z, .int .i64 M.grid.nr, .int .i64 M.grid.nz, .int .i64 M.grid.step, .slice R.D R.ld R.cd, .slice Q.A Q.la Q.ca, .slice Q.B Q.lb Q.cb, .slice Q.C Q.lc Q.cc, .int .i64 g]), (.slice X nx cx)]) Tryz.func35 rfl rfl ?_
  refine ac_seq (ac_region ?_)
  refine al_new (fun b => .pointer (some ⟨b, 0, none⟩)) (r_box rfl rfl) rfl rfl rfl ?_
  intro b1
  refine al_p (q_assign rfl) (al_end (aq_then ?_))
  refine ac_seq (ac_region ?_)
  refine al_p (q_fieldAddr 0 rfl Tryz.runUnderlying34 rfl Tryz.sizeOf29 (by decide) rfl) (al_p (q_loadSub (i := 0) rfl rfl Tryz.isAgg29 Tryz.sizeOf29 .k0 .k10) ?_)
  refine al_p (q_fieldAddr 10 rfl Tryz.runUnderlying34 rfl Tryz.sizeOf32 (by decide) rfl) (al_p (q_loadSub (i := 0) rfl rfl Tryz.isAgg32 Tryz.sizeOf32 .k10 .k3) (al_call Tryz.call30 (.cons rfl (.cons rfl .nil)) rfl rfl (fun w1 hs1 => ?_)))
  refine (rvalid5_any R M Q C _ (hM.below hs1.below) (hC.below hs1.below)).mono ?_
  rintro e u1 ⟨rfl, hb_1⟩
  refine ⟨_, rfl, hb_1, ?_⟩
  clear hs1
  refine al_p (q_move rfl) ?_
  refine aq_split 10 rfl (fun hb1 => ?_) (fun hb1 => ?_)
  · have hv : validC M C = true := hb1
    refine al_p (q_fieldAddr 13 rfl Tryz.runUnderlying34 rfl Tryz.sizeOf3 (by decide) rfl) (al_p (q_load (i := 0) rfl rfl rfl Tryz.isAgg3) (al_p (q_geq rfl rfl) (al_p (q_pickT rfl rfl) (al_p (q_move rfl) ?_))))
    refine aq_split 15 rfl (fun hb2 => ?_) (fun hb2 => ?_)
    · have g1 := of_decide_eq_true hb2
      refine al_p (q_fieldAddr 13 rfl Tryz.runUnderlying34 rfl Tryz.sizeOf3 (by decide) rfl) (al_p (q_load (i := 0) rfl rfl rfl Tryz.isAgg3) (al_p (q_leq rfl rfl) (al_p (q_pickT rfl rfl) (al_p (q_move rfl) ?_))))
      refine aq_split 20 rfl (fun hb3 => ?_) (fun hb3 => ?_)
      · have g2 := of_decide_eq_true hb3
        refine al_p (q_fieldAddr 0 rfl Tryz.runUnderlying34 rfl Tryz.sizeOf29 (by decide) rfl) (al_p (q_loadSub (i := 0) rfl rfl Tryz.isAgg29 Tryz.sizeOf29 .k0 .k10) ?_)
        refine al_p (q_fieldAddr 13 rfl Tryz.runUnderlying34 rfl Tryz.sizeOf3 (by decide) rfl) (al_p (q_load (i := 0) rfl rfl rfl Tryz.isAgg3) (al_p (q_move rfl) (al_call Tryz.call29 (.cons rfl (.cons rfl (.cons rfl .nil))) rfl rfl (fun w2 hs2 => ?_))))
        refine (rvbox9_any R M X nx cx xs g _ (hM.below hs2.below) (hS.below hs2.below)).mono ?_
        rintro e u2 ⟨rfl, hb_2⟩
        refine ⟨_, rfl, hb_2, ?_⟩
        clear hs2
        refine al_p (q_pickT rfl rfl) (al_p (q_assign rfl) (al_end (aq_then ?_)))
        refine ac_ret (ret1 Tryz.results35 rfl (fun w9 hs => ?_))
        first | exact ⟨false, rfl, (fun h => by cases h), hs.below⟩ | exact ⟨_, rfl, (fun h => ⟨hv, g1, g2, h⟩), hs.below⟩
      · skip
        refine al_skip rfl rfl rfl (al_skip rfl rfl rfl (al_skip rfl rfl rfl (al_skip rfl rfl rfl (al_skip rfl rfl rfl ?_))))
        refine al_skip rfl rfl rfl (al_p (q_pickF rfl rfl) (al_p (q_assign rfl) (al_end (aq_then ?_))))
        refine ac_ret (ret1 Tryz.results35 rfl (fun w9 hs => ?_))
        first | exact ⟨false, rfl, (fun h => by cases h), hs.below⟩ | exact ⟨_, rfl, (fun h => ⟨hv, g1, g2, h⟩), hs.below⟩
    · skip
      refine al_skip rfl rfl rfl (al_skip rfl rfl rfl (al_skip rfl rfl rfl (al_p (q_pickF rfl rfl) (al_p (q_move rfl) ?_))))
      refine al_skip rfl rfl rfl (al_skip rfl rfl rfl (al_skip rfl rfl rfl (al_skip rfl rfl rfl (al_skip rfl rfl rfl ?_))))
      refine al_skip rfl rfl rfl (al_p (q_pickF rfl rfl) (al_p (q_assign rfl) (al_end (aq_then ?_))))
      refine ac_ret (ret1 Tryz.results35 rfl (fun w9 hs => ?_))
      first | exact ⟨false, rfl, (fun h => by cases h), hs.below⟩ | exact ⟨_, rfl, (fun h => ⟨hv, g1, g2, h⟩), hs.below⟩
  · skip
    refine al_skip rfl rfl rfl (al_skip rfl rfl rfl (al_skip rfl rfl rfl (al_p (q_pickF rfl rfl) (al_p (q_move rfl) ?_))))
    refine al_skip rfl rfl rfl (al_skip rfl rfl rfl (al_skip rfl rfl rfl (al_p (q_pickF rfl rfl) (al_p (q_move rfl) ?_))))
    refine al_skip rfl rfl rfl (al_skip rfl rfl rfl (al_skip rfl rfl rfl (al_skip rfl rfl rfl (al_skip rfl rfl rfl ?_))))
    refine al_skip rfl rfl rfl (al_p (q_pickF rfl rfl) (al_p (q_assign rfl) (al_end (aq_then ?_))))
    refine ac_ret (ret1 Tryz.results35 rfl (fun w9 hs => ?_))
    first | exact ⟨false, rfl, (fun h => by cases h), hs.below⟩ | exact ⟨_, rfl, (fun h => ⟨hv, g1, g2, h⟩), hs.below⟩
set_option maxRecDepth 100000 in
theorem sound_walk (R : MachR) (M : MachD) (Q : CurR) (C : CurD) (g : Int) (X : Option Addr) (nx cx : Nat) (xs : List SpanD) (J : Option Addr) (nj cj : Nat) (js : List Int) (w : World) (hM0 : R.la ≤ 1000000000000000 → R.lb ≤ 1000000000000000 → R.lc ≤ 1000000000000000 → R.ld ≤ 1000000000000000 → IsM w R M) (hC0 : Q.la ≤ 1000000000000000 → Q.lb ≤ 1000000000000000 → Q.lc ≤ 1000000000000000 → IsC w Q C) (hS : IsT 2 SpanD.cells w X nx xs) (hJ : IsT 1 intCells w J nj js) : Calls Tryz.prog 8 #[(.agg #[.string M.name, .slice R.A R.la R.ca, .slice R.B R.lb R.cb, .slice R.C R.lc R.cc, .int .i64 M.grid.r, .int .i64 M.grid.z, .int .i64 M.grid.nr, .int .i64 M.grid.nz, .int .i64 M.grid.step, .slice R.D R.ld R.cd, .slice Q.A Q.la Q.ca, .slice Q.B Q.lb Q.cb, .slice Q.C Q.lc Q.cc, .int .i64 g]), (.slice X nx cx), (.slice J nj cj)] w (Ret (.bool true) w) := by
  refine calls_ax (vs := [(.agg #[.string M.name, .slice R.A R.la R.ca, .slice R.B R.lb R.cb, .slice R.C R.lc R.cc, .int .i64 M.grid.r, .int .i64 M.grid.z, .int .i64 M.grid.nr, .int .i64 M.grid.nz, .int .i64 M.grid.step, .slice R.D R.ld R.cd, .slice Q.A Q.la Q.ca, .slice Q.B Q.lb Q.cb, .slice Q.C Q.lc Q.cc, .int .i64 g]), (.slice X nx cx), (.slice J nj cj)]) Tryz.func8 rfl rfl ?_
  refine ac_seq (ac_region ?_)
  refine al_new (fun b => .pointer (some ⟨b, 0, none⟩)) (r_box rfl rfl) rfl rfl rfl ?_
  intro b1
  refine al_p (q_assign rfl) (al_end (aq_then ?_))
  refine ac_seq (ac_seq (ac_region ?_))
  refine al_p (q_loadAll (i := 0) rfl rfl Tryz.isAgg34 Tryz.sizeOf34 rfl) (al_call Tryz.call9 (.cons rfl .nil) rfl rfl (fun w1 hs1 => ?_))
  refine (brief5_any R M Q g _).mono ?_
  rintro e u1 ⟨bb, rfl, hbb, hb_1⟩
  refine ⟨_, rfl, hb_1, ?_⟩
  clear hs1
  refine al_p (q_not rfl) (al_p (q_move rfl) ?_)
  refine aq_split 21 rfl (fun hb1 => ?_) (fun hb1 => ?_)
  · skip
    refine al_skip rfl rfl rfl (al_skip rfl rfl rfl (al_skip rfl rfl rfl (al_skip rfl rfl rfl (al_p (q_pickT rfl rfl) ?_))))
    refine al_end (aq_then ?_)
    refine ac_condT rfl (ac_seq (ac_region ?_))
    refine al_call Tryz.call10 .nil rfl rfl (fun w2 hs2 => ?_)
    refine (awake5_any _).mono ?_
    rintro e u2 ⟨rfl, hb_2⟩
    refine ⟨_, rfl, hb_2, ?_⟩
    clear hs2
    refine al_p (q_assign rfl) (al_end (aq_then ?_))
    refine ac_ret (aq_thenR (ret1 Tryz.results8 rfl (fun w9 hs => ?_)))
    exact ⟨rfl, hs.below⟩
  · obtain ⟨u1, u2, u3, u4, u5, u6, u7⟩ := hbb (by simpa using hb1)
    have hM := hM0 (by omega) (by omega) (by omega) (by omega)
    have hC := hC0 (by omega) (by omega) (by omega)
    refine al_p (q_loadAll (i := 0) rfl rfl Tryz.isAgg34 Tryz.sizeOf34 rfl) (al_p (q_move rfl) (al_call Tryz.call35 (.cons rfl (.cons rfl .nil)) rfl rfl (fun w3 hs3 => ?_)))
    refine (boxed_any R M Q C g X nx cx xs _ (hM.below hs3.below) (hC.below hs3.below) (hS.below hs3.below)).mono ?_
    rintro e u3 ⟨bx, rfl, hbx0, hb_3⟩
    refine ⟨_, rfl, hb_3, ?_⟩
    clear hs3
    refine al_p (q_not rfl) (al_p (q_pickF rfl rfl) (al_end (aq_then ?_)))
    refine ac_cond rfl (fun h1 => ?_) (fun h1 => ?_)
    · skip
      refine ac_seq (ac_region ?_)
      refine al_call Tryz.call10 .nil rfl rfl (fun w4 hs4 => ?_)
      refine (awake5_any _).mono ?_
      rintro e u4 ⟨rfl, hb_4⟩
      refine ⟨_, rfl, hb_4, ?_⟩
      clear hs4
      refine al_p (q_assign rfl) (al_end (aq_then ?_))
      refine ac_ret (aq_thenR (ret1 Tryz.results8 rfl (fun w9 hs => ?_)))
      exact ⟨rfl, hs.below⟩
    · obtain ⟨hv, g1, g2, hb⟩ := hbx0 (by simpa using h1)
      have hX := boxB_iff.1 hb
      have hX6 := fit_up hX g2
      have hf : Fit2 M C := fit2_iff.1 hv
      have hok : bnE M C xs = 0 := if_pos (by unfold bnV; rw [hv, boxB_iff.2 hX6]; rfl)
      have hcn := cellN_eq hX.check
      have n1 := hS.1
      have n2 := hX.len
      have hbk : ∀ k, k < nx → 0 ≤ (spA xs k).lo ∧ (spA xs k).lo ≤ (spA xs k).hi ∧ (spA xs k).hi ≤ 1000000 := fun k hk => by have := box_at hX (k := k) (by omega); omega
      have hin : ∀ k, k < nx → (spA xs k).lo ≤ iA (lst nx (pkA xs js)) k ∧ iA (lst nx (pkA xs js)) k ≤ (spA xs k).hi := fun k hk => by rw [iA_lst _ hk]; exact pkA_bd (hbk k hk).2.1
      have hjb : ∀ k, k < nx → 0 ≤ iA (lst nx (pkA xs js)) k ∧ iA (lst nx (pkA xs js)) k ≤ g := fun k hk => by have h1 := hin k hk; have h2 := box_at hX (k := k) (by omega); omega
      have hIn : InX (lst nx (ptX (lst nx (pkA xs js)))) xs (cellN M) := fun k hk => by rw [ptX_at _ (by omega)]; exact hin k (by omega)
      have hfj : FitX M g (lst nx (ptX (lst nx (pkA xs js)))) := ptX_fit hX.check (by omega) hjb
      refine ac_skip (aq_then (ac_seq (ac_region ?_)))
      refine al_p (q_move rfl) (al_p (q_move rfl) (al_call Tryz.call31 (.cons rfl (.cons rfl .nil)) rfl rfl (fun w5 hs5 => ?_)))
      refine (picked_any X nx cx xs J nj cj js _ (hS.below hs5.below) (hJ.below hs5.below) (by omega) hbk).mono ?_
      rintro e u5 ⟨A_j, c_j, rfl, N_j, hb_5⟩
      refine ⟨_, rfl, hb_5, ?_⟩
      clear hs5
      refine al_p (q_assign rfl) (al_end (aq_then ?_))
      refine ac_seq (ac_seq (ac_region ?_))
      refine al_p (q_move rfl) (al_p (q_move rfl) (al_call Tryz.call23 (.cons rfl (.cons rfl .nil)) rfl rfl (fun w6 hs6 => ?_)))
      refine (holdsY X nx cx xs A_j c_j (lst nx (pkA xs js)) _ (hS.below hs6.below) (hs6.newT (.head _) N_j) (by omega) hin).mono ?_
      rintro e u6 ⟨rfl, hb_6⟩
      refine ⟨_, rfl, hb_6, ?_⟩
      clear hs6
      refine al_p (q_not rfl) (al_end (aq_then ?_))
      refine ac_condF rfl (ac_skip (aq_then (ac_seq (ac_region ?_))))
      refine al_p (q_fieldAddr 0 rfl Tryz.runUnderlying34 rfl Tryz.sizeOf29 (by decide) rfl) (al_p (q_loadSub (i := 0) rfl rfl Tryz.isAgg29 Tryz.sizeOf29 .k0 .k10) ?_)
      refine al_p (q_fieldAddr 10 rfl Tryz.runUnderlying34 rfl Tryz.sizeOf32 (by decide) rfl) (al_p (q_loadSub (i := 0) rfl rfl Tryz.isAgg32 Tryz.sizeOf32 .k10 .k3) (al_p (q_move rfl) (al_call Tryz.call25 (.cons rfl (.cons rfl (.cons rfl .nil))) rfl rfl (fun w7 hs7 => ?_))))
      refine (sides_any R M Q C X nx cx xs _ (hM.below hs7.below) (hC.below hs7.below) (hS.below hs7.below) (by omega)).mono ?_
      rintro e u7 ⟨A_s, n_s, c_s, rfl, N_s, hb_7⟩
      rw [show sdL M C xs = lst (cellN M) (sdA M C xs) from if_pos (bnV_ok hok)] at N_s
      have len_s := N_s.isT.1
      rw [lst_length] at len_s
      refine ⟨_, rfl, hb_7, ?_⟩
      clear hs7
      refine al_p (q_move rfl) (al_p (q_extract rfl rfl) (al_p (q_extract rfl rfl) (al_p (q_assign rfl) (al_p (q_assign rfl) ?_))))
      refine al_end (aq_then ?_)
      refine ac_seq (ac_region ?_)
      refine al_p (q_fieldAddr 0 rfl Tryz.runUnderlying34 rfl Tryz.sizeOf29 (by decide) rfl) (al_p (q_loadSub (i := 0) rfl rfl Tryz.isAgg29 Tryz.sizeOf29 .k0 .k10) ?_)
      refine al_p (q_fieldAddr 10 rfl Tryz.runUnderlying34 rfl Tryz.sizeOf32 (by decide) rfl) (al_p (q_loadSub (i := 0) rfl rfl Tryz.isAgg32 Tryz.sizeOf32 .k10 .k3) (al_p (q_move rfl) (al_call Tryz.call38 (.cons rfl (.cons rfl (.cons rfl .nil))) rfl rfl (fun w8 hs8 => ?_))))
      refine (rExcesses_any R M Q C A_j nx c_j (lst nx (pkA xs js)) g _ (hM.below hs8.below) (hC.below hs8.below) (hs8.newT (.tail _ (.tail _ (.head _))) N_j) hf (by omega) g2 hjb).mono ?_
      rintro e u8 ⟨A_e, c_e, rfl, N_e, hb_8⟩
      refine ⟨_, rfl, hb_8, ?_⟩
      clear hs8
      refine al_p (q_move rfl) (al_p (q_extract rfl rfl) (al_p (q_extract rfl rfl) (al_p (q_assign rfl) (al_p (q_assign rfl) ?_))))
      refine al_end (aq_then ?_)
      refine ac_seq (ac_seq (ac_region ?_))
      refine al_p (q_move rfl) ?_
      refine al_p (q_same (v' := .bool false) (q_neq rfl rfl) (by rw [hok]; rfl)) (al_p (q_move rfl) (al_p (q_move rfl) (al_p (q_lenS rfl Tryz.runUnderlying56) (al_p (q_move rfl) ?_))))
      refine al_p (q_lenS rfl Tryz.runUnderlying30) ?_
      refine al_p (q_same (v' := .bool false) (q_neq rfl rfl) (by simp [len_s])) (al_p (q_pickF rfl rfl) (al_end (aq_then ?_)))
      refine ac_condF rfl (ac_skip (aq_then (ac_seq (ac_seq (ac_region ?_)))))
      refine al_p (q_assign rfl) (al_end (aq_then ?_))
      refine ac_block (ac_loop (β := Nat) (fun k => True) (fun k => [(1, (.slice X nx cx)), (3, (.pointer (some ⟨b1, 0, none⟩))), (6, (.bool false)), (7, (.slice A_j nx c_j)), (8, (.slice A_s n_s c_s)), (10, (.slice A_e (cellN M) c_e)), (12, (.int .i64 (k : Int)))]) (fun _ => _) (fun k => [(b1, _)]) (fun k => n_s - k) 0 trivial ⟨rfl, rfl, rfl, rfl, rfl, rfl, rfl, trivial⟩ (fun w9 hs => hs) (fun k hF1 => ?_))
      refine ac_seq (ac_seq (ac_region ?_))
      refine al_p (q_move rfl) (al_p (q_move rfl) (al_p (q_lenS rfl Tryz.runUnderlying56) (al_p (q_lss rfl rfl) (al_end (aq_then ?_)))))
      refine ac_cond rfl (fun h2 => ?_) (fun h2 => ?_)
      · have hkn : k < n_s := by have := of_decide_eq_true h2; omega
        obtain ⟨b_s, o_s, hA_s, hlt_s, hget_s⟩ := N_s.isT.2 (by omega)
        have hx_s := lst_get (sdA M C xs) (n := cellN M) (k := k) (by omega)
        obtain ⟨b_e, o_e, hA_e, hlt_e, hget_e⟩ := N_e.isT.2 (by omega)
        have hx_e := lst_get (fun k => (exA M C (lst nx (ptX (lst nx (pkA xs js)))) k).lo) (n := cellN M) (k := k) (by omega)
        refine ac_skip (aq_then (ac_seq (ac_block (ac_seq (ac_region ?_)))))
        refine al_p (q_move rfl) (al_p (q_move rfl) ?_)
        refine al_p (q_indexAddrA (i := k) (o_s + k * 1 + 0) hA_s rfl rfl rfl (by omega) Tryz.runUnderlying56 Tryz.sizeOf59 rfl) (al_p (q_loadX rfl Tryz.isAgg59 (fun w9 hs => (cell_blkx ((hs.snap _ _ (.tail _ (.head _))).2.2.2.1 b_s (N_s.new _ _ hA_s) hlt_s)).trans ((hget_s k _ hx_s) 0 _ rfl))) (al_p (q_eql rfl rfl) (al_p (q_move rfl) ?_)))
        refine aq_split 73 rfl (fun hb2 => ?_) (fun hb2 => ?_)
        · have hs1 := side_in hIn (eq_of_beq hb2)
          refine al_p (q_move rfl) (al_p (q_move rfl) ?_)
          refine al_p (q_indexAddrA (i := k) (o_e + k * 1 + 0) hA_e rfl rfl rfl (by omega) Tryz.runUnderlying30 Tryz.sizeOf3 rfl) (al_p (q_loadX rfl Tryz.isAgg3 (fun w9 hs => (cell_blkx ((hs.snap _ _ (.head _)).2.2.2.1 b_e (N_e.new _ _ hA_e) hlt_e)).trans ((hget_e k _ hx_e) 0 _ rfl))) ?_)
          refine al_p (q_same (v' := .bool false) (q_eql rfl rfl) (by congr 1; exact beq_false_of_ne (by omega))) (al_p (q_pickT rfl rfl) (al_p (q_move rfl) (al_p (q_move rfl) (al_p (q_move rfl) ?_))))
          refine al_p (q_indexAddrA (i := k) (o_s + k * 1 + 0) hA_s rfl rfl rfl (by omega) Tryz.runUnderlying56 Tryz.sizeOf59 rfl) (al_p (q_loadX rfl Tryz.isAgg59 (fun w9 hs => (cell_blkx ((hs.snap _ _ (.tail _ (.head _))).2.2.2.1 b_s (N_s.new _ _ hA_s) hlt_s)).trans ((hget_s k _ hx_s) 0 _ rfl))) (al_p (q_eql rfl rfl) (al_p (q_move rfl) ?_)))
          refine aq_split 86 rfl (fun hb3 => ?_) (fun hb3 => ?_)
          · have hs0 := side_out hIn rfl (flS_bd hf hfj g2 (cellP M k)).2.1 (bdS_bd hf hfj g2).2.1 (eq_of_beq hb3)
            refine al_p (q_move rfl) (al_p (q_move rfl) ?_)
            refine al_p (q_indexAddrA (i := k) (o_e + k * 1 + 0) hA_e rfl rfl rfl (by omega) Tryz.runUnderlying30 Tryz.sizeOf3 rfl) (al_p (q_loadX rfl Tryz.isAgg3 (fun w9 hs => (cell_blkx ((hs.snap _ _ (.head _)).2.2.2.1 b_e (N_e.new _ _ hA_e) hlt_e)).trans ((hget_e k _ hx_e) 0 _ rfl))) ?_)
            refine al_p (q_same (v' := .bool false) (q_gtr rfl rfl) (by congr 1; exact decide_eq_false (by omega))) (al_p (q_pickT rfl rfl) (al_p (q_pickF rfl rfl) (al_end (aq_then ?_))))
            refine aq_keepL [1, 3, 6, 7, 8, 10, 12, 62, 63, 64, 65, 68, 69, 70, 71, 72, 73, 74, 75, 76, 77, 78, 79, 80, 81, 82, 83, 84, 85, 86, 87, 88, 89, 90, 91, 92, 93] (.cons rfl (.cons rfl (.cons rfl (.cons rfl (.cons rfl (.cons rfl (.cons rfl (.cons rfl (.cons rfl (.cons rfl (.cons rfl (.cons rfl (.cons rfl (.cons rfl (.cons rfl (.cons rfl (.cons rfl (.cons rfl (.cons rfl (.cons rfl (.cons rfl (.cons rfl (.cons rfl (.cons rfl (.cons rfl (.cons rfl (.cons rfl (.cons rfl (.cons rfl (.cons rfl (.cons rfl (.cons rfl (.cons rfl (.cons rfl (.cons rfl (.cons rfl (.cons rfl .nil))))))))))))))))))))))))))))))))))))) ?_
            refine ac_condF rfl (ac_skip (aq_inN (aq_then (ac_region ?_))))
            refine al_p (q_move rfl) ?_
            refine al_p (q_add rfl rfl (by omega)) (al_p (q_assign rfl) (al_end (aq_then ?_)))
            skip
            refine aq_round (k + 1) (by omega) trivial ⟨rfl, rfl, rfl, rfl, rfl, rfl, rfl, trivial⟩ (fun w9 hs => hs)
          · skip
            refine al_skip rfl rfl rfl (al_skip rfl rfl rfl (al_skip rfl rfl rfl (al_skip rfl rfl rfl (al_skip rfl rfl rfl ?_))))
            refine al_p (q_pickF rfl rfl) (al_p (q_pickF rfl rfl) (al_end (aq_then ?_)))
            refine ac_condF rfl (ac_skip (aq_inN (aq_then (ac_region ?_))))
            refine al_p (q_move rfl) ?_
            refine al_p (q_add rfl rfl (by omega)) (al_p (q_assign rfl) (al_end (aq_then ?_)))
            skip
            refine aq_round (k + 1) (by omega) trivial ⟨rfl, rfl, rfl, rfl, rfl, rfl, rfl, trivial⟩ (fun w9 hs => hs)
        · skip
          refine al_skip rfl rfl rfl (al_skip rfl rfl rfl (al_skip rfl rfl rfl (al_skip rfl rfl rfl (al_skip rfl rfl rfl ?_))))
          refine al_p (q_pickF rfl rfl) (al_p (q_move rfl) (al_p (q_move rfl) (al_p (q_move rfl) ?_)))
          refine al_p (q_indexAddrA (i := k) (o_s + k * 1 + 0) hA_s rfl rfl rfl (by omega) Tryz.runUnderlying56 Tryz.sizeOf59 rfl) (al_p (q_loadX rfl Tryz.isAgg59 (fun w9 hs => (cell_blkx ((hs.snap _ _ (.tail _ (.head _))).2.2.2.1 b_s (N_s.new _ _ hA_s) hlt_s)).trans ((hget_s k _ hx_s) 0 _ rfl))) (al_p (q_eql rfl rfl) (al_p (q_move rfl) ?_)))
          refine aq_split 86 rfl (fun hb4 => ?_) (fun hb4 => ?_)
          · have hs0 := side_out hIn rfl (flS_bd hf hfj g2 (cellP M k)).2.1 (bdS_bd hf hfj g2).2.1 (eq_of_beq hb4)
            refine al_p (q_move rfl) (al_p (q_move rfl) ?_)
            refine al_p (q_indexAddrA (i := k) (o_e + k * 1 + 0) hA_e rfl rfl rfl (by omega) Tryz.runUnderlying30 Tryz.sizeOf3 rfl) (al_p (q_loadX rfl Tryz.isAgg3 (fun w9 hs => (cell_blkx ((hs.snap _ _ (.head _)).2.2.2.1 b_e (N_e.new _ _ hA_e) hlt_e)).trans ((hget_e k _ hx_e) 0 _ rfl))) ?_)
            refine al_p (q_same (v' := .bool false) (q_gtr rfl rfl) (by congr 1; exact decide_eq_false (by omega))) (al_p (q_pickT rfl rfl) (al_p (q_pickF rfl rfl) (al_end (aq_then ?_))))
            refine ac_condF rfl (ac_skip (aq_inN (aq_then (ac_region ?_))))
            refine al_p (q_move rfl) ?_
            refine al_p (q_add rfl rfl (by omega)) (al_p (q_assign rfl) (al_end (aq_then ?_)))
            skip
            refine aq_round (k + 1) (by omega) trivial ⟨rfl, rfl, rfl, rfl, rfl, rfl, rfl, trivial⟩ (fun w9 hs => hs)
          · skip
            refine al_skip rfl rfl rfl (al_skip rfl rfl rfl (al_skip rfl rfl rfl (al_skip rfl rfl rfl (al_skip rfl rfl rfl ?_))))
            refine al_p (q_pickF rfl rfl) (al_p (q_pickF rfl rfl) (al_end (aq_then ?_)))
            refine ac_condF rfl (ac_skip (aq_inN (aq_then (ac_region ?_))))
            refine al_p (q_move rfl) ?_
            refine al_p (q_add rfl rfl (by omega)) (al_p (q_assign rfl) (al_end (aq_then ?_)))
            skip
            refine aq_round (k + 1) (by omega) trivial ⟨rfl, rfl, rfl, rfl, rfl, rfl, rfl, trivial⟩ (fun w9 hs => hs)
      · skip
        refine ac_exit (aq_thenE (aq_thenE (aq_hit (aq_then ?_))))
        refine ac_seq (ac_region ?_)
        refine al_p (q_fieldAddr 0 rfl Tryz.runUnderlying34 rfl Tryz.sizeOf29 (by decide) rfl) (al_p (q_loadSub (i := 0) rfl rfl Tryz.isAgg29 Tryz.sizeOf29 .k0 .k10) ?_)
        refine al_p (q_fieldAddr 10 rfl Tryz.runUnderlying34 rfl Tryz.sizeOf32 (by decide) rfl) (al_p (q_loadSub (i := 0) rfl rfl Tryz.isAgg32 Tryz.sizeOf32 .k10 .k3) ?_)
        refine al_p (q_fieldAddr 13 rfl Tryz.runUnderlying34 rfl Tryz.sizeOf3 (by decide) rfl) (al_p (q_load (i := 0) rfl rfl rfl Tryz.isAgg3) (al_p (q_move rfl) (al_call Tryz.call39 (.cons rfl (.cons rfl (.cons rfl (.cons rfl .nil)))) rfl rfl (fun w9 hs9 => ?_))))
        refine (imbox_any R M Q C X nx cx xs g _ (hM.below hs9.below) (hC.below hs9.below) (hS.below hs9.below) hv hb g1 g2).mono ?_
        rintro e u9 ⟨A_b, n_b, c_b, rfl, N_b, hb_9⟩
        refine ⟨_, rfl, hb_9, ?_⟩
        clear hs9
        refine al_p (q_move rfl) (al_p (q_extract rfl rfl) (al_p (q_extract rfl rfl) (al_p (q_assign rfl) (al_p (q_assign rfl) ?_))))
        refine al_end (aq_then ?_)
        refine ac_seq (ac_region ?_)
        refine al_p (q_fieldAddr 0 rfl Tryz.runUnderlying34 rfl Tryz.sizeOf29 (by decide) rfl) (al_p (q_loadSub (i := 0) rfl rfl Tryz.isAgg29 Tryz.sizeOf29 .k0 .k10) ?_)
        refine al_p (q_fieldAddr 10 rfl Tryz.runUnderlying34 rfl Tryz.sizeOf32 (by decide) rfl) (al_p (q_loadSub (i := 0) rfl rfl Tryz.isAgg32 Tryz.sizeOf32 .k10 .k3) ?_)
        refine al_p (q_fieldAddr 13 rfl Tryz.runUnderlying34 rfl Tryz.sizeOf3 (by decide) rfl) (al_p (q_load (i := 0) rfl rfl rfl Tryz.isAgg3) (al_p (q_move rfl) (al_call Tryz.call40 (.cons rfl (.cons rfl (.cons rfl (.cons rfl .nil)))) rfl rfl (fun w10 hs10 => ?_))))
        refine (imnum_any R M Q C A_j nx c_j (lst nx (pkA xs js)) g _ (hM.below hs10.below) (hC.below hs10.below) (hs10.newT (.tail _ (.tail _ (.tail _ (.tail _ (.head _))))) N_j) hv (by omega) g1 g2 hjb).mono ?_
        rintro e u10 ⟨A_i, n_i, c_i, rfl, N_i, hb_10⟩
        refine ⟨_, rfl, hb_10, ?_⟩
        clear hs10
        refine al_p (q_move rfl) (al_p (q_extract rfl rfl) (al_p (q_extract rfl rfl) (al_p (q_assign rfl) (al_p (q_assign rfl) ?_))))
        refine al_end (aq_then ?_)
        refine ac_seq (ac_seq (ac_region ?_))
        refine al_p (q_move rfl) (al_p (q_neq rfl rfl) (al_p (q_move rfl) ?_))
        refine aq_split 118 rfl (fun hb5 => ?_) (fun hb5 => ?_)
        · have h8 : imE M C xs = 8 := (imE_cases M C xs).elim (fun h => by rw [h.1] at hb5; cases hb5) id
          refine al_skip rfl rfl rfl (al_skip rfl rfl rfl (al_skip rfl rfl rfl (al_skip rfl rfl rfl (al_skip rfl rfl rfl ?_))))
          refine al_p (q_pickT rfl rfl) (al_end (aq_then ?_))
          refine ac_condT rfl (ac_seq (ac_region ?_))
          refine al_p (q_move rfl) ?_
          refine al_p (q_same (v' := .bool true) (q_eql rfl rfl) (by rw [h8]; rfl)) (al_p (q_move rfl) (al_call Tryz.call10 .nil rfl rfl (fun w11 hs11 => ?_)))
          refine (awake5_any _).mono ?_
          rintro e u11 ⟨rfl, hb_11⟩
          refine ⟨_, rfl, hb_11, ?_⟩
          clear hs11
          refine al_p (q_pickT rfl rfl) (al_p (q_assign rfl) (al_end (aq_then ?_)))
          refine aq_keepL [1, 6, 13, 15, 16] (.cons rfl (.cons rfl (.cons rfl (.cons rfl (.cons rfl .nil))))) ?_
          refine ac_ret (aq_thenR (ret1 Tryz.results8 rfl (fun w9 hs => ?_)))
          exact ⟨rfl, hs.below⟩
        · have h0 : imE M C xs = 0 := by simpa using hb5
          have hx0 : exLo M C xs ≠ 0 := (imE_cases M C xs).elim (fun h => h.2) (fun h => by rw [h0] at h; cases h)
          have hp0 := (exS_bd hf hX g2 (n := cellN M) (Nat.le_refl _)).1
          have hj0 : exLo M C (lst nx (ptX (lst nx (pkA xs js)))) ≠ 0 := by have := exLo_mono (C := C) hIn; unfold exLo at *; omega
          have h1 : imE M C (lst nx (ptX (lst nx (pkA xs js)))) = 0 := if_neg hj0
          rw [show imR M C g xs = lst (cellN M) (imA M C g xs) from if_neg hx0] at N_b
          rw [show imR M C g (lst nx (ptX (lst nx (pkA xs js)))) = lst (cellN M) (imA M C g (lst nx (ptX (lst nx (pkA xs js))))) from if_neg hj0] at N_i
          have len_b := N_b.isT.1
          have len_i := N_i.isT.1
          rw [lst_length] at len_b len_i
          have hnb : n_b = nx := by omega
          have hni : n_i = nx := by omega
          refine al_p (q_move rfl) (al_p (q_lenS rfl Tryz.runUnderlying45) (al_p (q_move rfl) (al_p (q_lenS rfl Tryz.runUnderlying45) ?_)))
          refine al_p (q_same (v' := .bool false) (q_neq rfl rfl) (by simp [hnb])) (al_p (q_pickF rfl rfl) (al_end (aq_then ?_)))
          refine ac_condF rfl (ac_skip (aq_then (ac_seq (ac_seq (ac_region ?_)))))
          refine al_p (q_move rfl) ?_
          refine al_p (q_same (v' := .bool false) (q_neq rfl rfl) (by rw [h1]; rfl)) (al_p (q_move rfl) (al_p (q_move rfl) (al_p (q_lenS rfl Tryz.runUnderlying45) (al_p (q_move rfl) ?_))))
          refine al_p (q_lenS rfl Tryz.runUnderlying45) ?_
          refine al_p (q_same (v' := .bool false) (q_neq rfl rfl) (by simp [hni])) (al_p (q_pickF rfl rfl) (al_end (aq_then ?_)))
          refine ac_condF rfl (ac_skip (aq_then (ac_seq (ac_seq (ac_region ?_)))))
          refine al_p (q_assign rfl) (al_end (aq_then ?_))
          refine ac_block (ac_loop (β := Nat) (fun k => True) (fun k => [(1, (.slice X nx cx)), (6, (.bool false)), (13, (.slice A_b n_b c_b)), (15, (.slice A_i n_i c_i)), (17, (.int .i64 (k : Int)))]) (fun _ => _) (fun k => [(b1, _)]) (fun k => nx - k) 0 trivial ⟨rfl, rfl, rfl, rfl, rfl, trivial⟩ (fun w9 hs => hs) (fun k hF2 => ?_))
          refine ac_seq (ac_seq (ac_region ?_))
          refine al_p (q_move rfl) (al_p (q_move rfl) (al_p (q_lenS rfl Tryz.runUnderlying45) (al_p (q_lss rfl rfl) (al_end (aq_then ?_)))))
          refine ac_cond rfl (fun h3 => ?_) (fun h3 => ?_)
          · have hkn : k < nx := by have := of_decide_eq_true h3; omega
            obtain ⟨b_b, o_b, hA_b, hlt_b, hget_b⟩ := N_b.isT.2 (by omega)
            have hx_b := lst_get (imA M C g xs) (n := cellN M) (k := k) (by omega)
            obtain ⟨b_i, o_i, hA_i, hlt_i, hget_i⟩ := N_i.isT.2 (by omega)
            have hx_i := lst_get (imA M C g (lst nx (ptX (lst nx (pkA xs js))))) (n := cellN M) (k := k) (by omega)
            have hmo := imA_mono (t := g) (by omega) hIn hf hX hfj g2 (k := k) (by omega)
            refine ac_skip (aq_then (ac_seq (ac_block (ac_seq ?_))))
            refine ac_draw 23 (by kernel_rfl) (by kernel_rfl) ?_
            refine ah_t 0 (fun w9 hs => hs) rfl rfl (by kernel_rfl) (q_move rfl) (ah_t 1 (fun w9 hs => hs) rfl rfl (by kernel_rfl) (q_move rfl) ?_)
            refine ah_t 2 (fun w9 hs => hs) rfl rfl (by kernel_rfl) (q_indexAddrA (i := k) (o_i + k * 2 + 0) hA_i rfl rfl rfl (by omega) Tryz.runUnderlying45 Tryz.sizeOf52 rfl) ?_
            refine ah_t 3 (fun w9 hs => hs) rfl rfl (by kernel_rfl) (q_fieldAddr (o_i + k * 2 + 0) rfl Tryz.runUnderlying52 rfl Tryz.sizeOf3 (by decide) rfl) (ah_t 4 (fun w9 hs => hs) rfl rfl (by kernel_rfl) (q_loadX rfl Tryz.isAgg3 (fun w9 hs => (cell_blkx ((hs.snap _ _ (.head _)).2.2.2.1 b_i (N_i.new _ _ hA_i) hlt_i)).trans ((hget_i k _ hx_i) 0 _ rfl))) (ah_t 5 (fun w9 hs => hs) rfl rfl (by kernel_rfl) (q_move rfl) (ah_t 6 (fun w9 hs => hs) rfl rfl (by kernel_rfl) (q_move rfl) ?_)))
            refine ah_t 7 (fun w9 hs => hs) rfl rfl (by kernel_rfl) (q_indexAddrA (i := k) (o_b + k * 2 + 0) hA_b rfl rfl rfl (by omega) Tryz.runUnderlying45 Tryz.sizeOf52 rfl) ?_
            refine ah_t 8 (fun w9 hs => hs) rfl rfl (by kernel_rfl) (q_fieldAddr (o_b + k * 2 + 0) rfl Tryz.runUnderlying52 rfl Tryz.sizeOf3 (by decide) rfl) (ah_t 9 (fun w9 hs => hs) rfl rfl (by kernel_rfl) (q_loadX rfl Tryz.isAgg3 (fun w9 hs => (cell_blkx ((hs.snap _ _ (.tail _ (.head _))).2.2.2.1 b_b (N_b.new _ _ hA_b) hlt_b)).trans ((hget_b k _ hx_b) 0 _ rfl))) ?_)
            refine ah_t 10 (fun w9 hs => hs) rfl rfl (by kernel_rfl) (q_same (v' := .bool false) (q_lss rfl rfl) (by congr 1; exact decide_eq_false (by omega))) (ah_t 11 (fun w9 hs => hs) rfl rfl (by kernel_rfl) (q_move rfl) (ah_t 12 (fun w9 hs => hs) rfl rfl (by kernel_rfl) (q_move rfl) (ah_t 13 (fun w9 hs => hs) rfl rfl (by kernel_rfl) (q_move rfl) ?_)))
            refine ah_t 14 (fun w9 hs => hs) rfl rfl (by kernel_rfl) (q_indexAddrA (i := k) (o_i + k * 2 + 0) hA_i rfl rfl rfl (by omega) Tryz.runUnderlying45 Tryz.sizeOf52 rfl) ?_
            refine ah_t 15 (fun w9 hs => hs) rfl rfl (by kernel_rfl) (q_fieldAddr (o_i + k * 2 + 1) rfl Tryz.runUnderlying52 rfl Tryz.sizeOf3 (by decide) rfl) (ah_t 16 (fun w9 hs => hs) rfl rfl (by kernel_rfl) (q_loadX rfl Tryz.isAgg3 (fun w9 hs => (cell_blkx ((hs.snap _ _ (.head _)).2.2.2.1 b_i (N_i.new _ _ hA_i) hlt_i)).trans ((hget_i k _ hx_i) 1 _ rfl))) (ah_t 17 (fun w9 hs => hs) rfl rfl (by kernel_rfl) (q_move rfl) (ah_t 18 (fun w9 hs => hs) rfl rfl (by kernel_rfl) (q_move rfl) ?_)))
            refine ah_t 19 (fun w9 hs => hs) rfl rfl (by kernel_rfl) (q_indexAddrA (i := k) (o_b + k * 2 + 0) hA_b rfl rfl rfl (by omega) Tryz.runUnderlying45 Tryz.sizeOf52 rfl) ?_
            refine ah_t 20 (fun w9 hs => hs) rfl rfl (by kernel_rfl) (q_fieldAddr (o_b + k * 2 + 1) rfl Tryz.runUnderlying52 rfl Tryz.sizeOf3 (by decide) rfl) (ah_t 21 (fun w9 hs => hs) rfl rfl (by kernel_rfl) (q_loadX rfl Tryz.isAgg3 (fun w9 hs => (cell_blkx ((hs.snap _ _ (.tail _ (.head _))).2.2.2.1 b_b (N_b.new _ _ hA_b) hlt_b)).trans ((hget_b k _ hx_b) 1 _ rfl))) ?_)
            refine ah_t 22 (fun w9 hs => hs) rfl rfl (by kernel_rfl) (q_same (v' := .bool false) (q_gtr rfl rfl) (by congr 1; exact decide_eq_false (by omega))) (ah_t 23 (fun w9 hs => hs) rfl rfl (by kernel_rfl) (q_pickF rfl rfl) (ah_done (by kernel_rfl) ?_))
            refine aq_then (ac_condF rfl (ac_skip (aq_inN (aq_then ?_))))
            refine ac_region (al_p (q_move rfl) ?_)
            refine al_p (q_add rfl rfl (by omega)) (al_p (q_assign rfl) (al_end (aq_then ?_)))
            skip
            refine aq_round (k + 1) (by omega) trivial ⟨rfl, rfl, rfl, rfl, rfl, trivial⟩ (fun w9 hs => hs)
          · skip
            refine ac_exit (aq_thenE (aq_thenE (aq_hit (aq_then ?_))))
            refine ac_seq (ac_region ?_)
            refine al_call Tryz.call10 .nil rfl rfl (fun w12 hs12 => ?_)
            refine (awake5_any _).mono ?_
            rintro e u12 ⟨rfl, hb_12⟩
            refine ⟨_, rfl, hb_12, ?_⟩
            clear hs12
            refine al_p (q_assign rfl) (al_end (aq_then ?_))
            refine ac_ret (ret1 Tryz.results8 rfl (fun w9 hs => ?_))
            exact ⟨rfl, hs.below⟩
end
section
set_option maxRecDepth 100000
open Go.ChangeShapes Go.WideShapes Go.ChangeAt Go.RowKit Go.Joins
theorem own : ownKnob Tryz.prog.godebug = none := by kernel_rfl
theorem cells_int : Tryz.prog.cellsOf 3 = 1 := by kernel_rfl
section
variable {H : Type} {enc : TypeId × Value → H}
end
end
section
set_option maxRecDepth 100000
open Go.ChangeShapes Go.WideShapes Go.ChangeAt Go.RowKit Go.Joins Go.Deep
section
variable {H : Type} {enc : TypeId × Value → H}
theorem open_isT {α : Type} {E : α → List Value} {n : Nat} (h0 : ∀ x, (E x).length = n) {t e : TypeId} {W : World} {b0 : Nat} {r : Reach} {v : Value} {d : DataW H} {p : List MemPlace}
    (ht : Tryz.prog.underlying t = some (.slice e)) (hc : Tryz.prog.cellsOf e = n) (hn : 0 < n)
    (dec : ∀ (fuel : Nat) (cs : List Value) (y : DataW H × List MemPlace), DataW.trod enc Tryz.prog W 0 (fun _ => true) true fuel e cs = some y → ∃ x : α, cs = E x)
    (hv : Value.okWide Tryz.prog W r b0 t v) (h : DataW.Trod enc Tryz.prog W 0 (fun _ => true) true t v d p) :
    ∃ (A : Option Addr) (len cap : Nat) (zs : List α), v = .slice A len cap ∧ IsT n E W A len zs ∧ len ≤ maxLen ∧ len ≤ cap ∧ cap ≤ maxLen := by
  obtain ⟨a, len, cap, rfl⟩ := okWide_slice ht hv
  obtain ⟨fuel, hf⟩ := h
  rcases open_slice ht hf with ⟨hcs, hx⟩ | ⟨a', len', cap', m, k, D, Pl, hcs, hb, hl, hm, hmm, hx, hi⟩
  · have hcs : [Value.slice a len cap] = [Value.slice none 0 0] := hcs
    injection hcs with hcs _
    injection hcs with e1 e2 e3
    subst e1 e2 e3
    exact ⟨_, _, _, [], rfl, IsT.nil _ _ _ _, Nat.zero_le _, Nat.zero_le _, Nat.zero_le _⟩
  · have hcs : [Value.slice a len cap] = [Value.slice (some a') len' cap'] := hcs
    injection hcs with hcs _
    injection hcs with e1 e2 e3
    subst e1 e2 e3
    simp only [if_true] at hmm
    subst hmm
    have each : ∀ i, i < len → ∃ x : α, ∀ j, j < n → W.cell? (a'.add (i * n + j)) = (E x)[j]? := fun i hil => by
      obtain ⟨cs', h1, h2⟩ := hi i (by omega)
      obtain ⟨x, rfl⟩ := dec _ _ _ h2
      rw [hc] at h1
      obtain ⟨_, _, hcell⟩ := World.cells?_some h1
      refine ⟨x, fun j hj => ?_⟩
      have := hcell j hj
      rwa [add_add] at this
    by_cases hz : len = 0
    · subst hz
      exact ⟨_, _, _, [], rfl, IsT.nil _ _ _ _, Nat.zero_le _, Nat.zero_le _, hm⟩
    · obtain ⟨x0, _⟩ := each 0 (by omega)
      haveI : Inhabited α := ⟨x0⟩
      obtain ⟨z, hz'⟩ := choose_lt each
      refine ⟨_, _, _, (List.range len).map z, rfl, ⟨by simp, fun _ => ?_⟩, Nat.le_trans hl hm, hl, hm⟩
      have c0 := hz' 0 (by omega) 0 hn
      obtain ⟨v0, hv0⟩ : ∃ v0, (E (z 0))[0]? = some v0 := ⟨_, List.getElem?_eq_getElem (by rw [h0]; exact hn)⟩
      rw [hv0] at c0
      have hlt := World.block_lt_of_cell? W _ c0
      have hsp := World.cell?_spot c0
      obtain ⟨b, off, spot⟩ := a'
      have hspot : spot = none := by simpa [Addr.add] using hsp
      subst hspot
      rw [block_add] at hlt
      refine ⟨b, off, rfl, hlt, fun j x hx i v hv => ?_⟩
      have hj : j < len := by
        have := (List.getElem?_eq_some_iff.1 hx).1
        simpa using this
      have hx' : x = z j := by
        rw [List.getElem?_map, List.getElem?_range hj] at hx
        simpa using hx.symm
      subst hx'
      have hin : i < n := by
        have := (List.getElem?_eq_some_iff.1 hv).1
        rwa [h0] at this
      have := hz' j hj i hin
      rw [add_plain, hv] at this
      rw [← this]
      congr 2
      omega
end
end
section
set_option maxRecDepth 100000
open Go.ChangeShapes Go.WideShapes Go.ChangeAt Go.RowKit Go.Joins Go.Deep
theorem cells_string : Tryz.prog.cellsOf 9 = 1 := by kernel_rfl
section
variable {H : Type} {enc : TypeId × Value → H}
theorem open_isTc {α : Type} {E : α → List Value} {n : Nat} (h0 : ∀ x, (E x).length = n) {t e : TypeId} {W : World} {fuel : Nat} {cs : List Value} {y : DataW H × List MemPlace}
    (ht : Tryz.prog.underlying t = some (.slice e)) (hc : Tryz.prog.cellsOf e = n) (hn : 0 < n)
    (dec : ∀ (fuel : Nat) (cs : List Value) (y : DataW H × List MemPlace), DataW.trod enc Tryz.prog W 0 (fun _ => true) true fuel e cs = some y → ∃ x : α, cs = E x)
    (hf : DataW.trod enc Tryz.prog W 0 (fun _ => true) true fuel t cs = some y) :
    ∃ (A : Option Addr) (len cap : Nat) (zs : List α), cs = [.slice A len cap] ∧ IsT n E W A len zs ∧ len ≤ cap ∧ cap ≤ maxLen := by
  rcases open_slice ht hf with ⟨hcs, hx⟩ | ⟨a', len, cap, m, k, D, Pl, hcs, hb, hl, hm, hmm, hx, hi⟩
  · exact ⟨_, _, _, [], hcs, IsT.nil _ _ _ _, Nat.zero_le _, Nat.zero_le _⟩
  · simp only [if_true] at hmm
    subst hmm
    subst hcs
    have each : ∀ i, i < len → ∃ x : α, ∀ j, j < n → W.cell? (a'.add (i * n + j)) = (E x)[j]? := fun i hil => by
      obtain ⟨cs', h1, h2⟩ := hi i (by omega)
      obtain ⟨x, rfl⟩ := dec _ _ _ h2
      rw [hc] at h1
      obtain ⟨_, _, hcell⟩ := World.cells?_some h1
      refine ⟨x, fun j hj => ?_⟩
      have := hcell j hj
      rwa [add_add] at this
    by_cases hz : len = 0
    · subst hz
      exact ⟨_, _, _, [], rfl, IsT.nil _ _ _ _, Nat.zero_le _, hm⟩
    · obtain ⟨x0, _⟩ := each 0 (by omega)
      haveI : Inhabited α := ⟨x0⟩
      obtain ⟨z, hz'⟩ := choose_lt each
      refine ⟨_, _, _, (List.range len).map z, rfl, ⟨by simp, fun _ => ?_⟩, hl, hm⟩
      have c0 := hz' 0 (by omega) 0 hn
      obtain ⟨v0, hv0⟩ : ∃ v0, (E (z 0))[0]? = some v0 := ⟨_, List.getElem?_eq_getElem (by rw [h0]; exact hn)⟩
      rw [hv0] at c0
      have hlt := World.block_lt_of_cell? W _ c0
      have hsp := World.cell?_spot c0
      obtain ⟨b, off, spot⟩ := a'
      have hspot : spot = none := by simpa [Addr.add] using hsp
      subst hspot
      rw [block_add] at hlt
      refine ⟨b, off, rfl, hlt, fun j x hx i v hv => ?_⟩
      have hj : j < len := by
        have := (List.getElem?_eq_some_iff.1 hx).1
        simpa using this
      have hx' : x = z j := by
        rw [List.getElem?_map, List.getElem?_range hj] at hx
        simpa using hx.symm
      subst hx'
      have hin : i < n := by
        have := (List.getElem?_eq_some_iff.1 hv).1
        rwa [h0] at this
      have := hz' j hj i hin
      rw [add_plain, hv] at this
      rw [← this]
      congr 2
      omega
theorem dec_Coil {W : World} {base : Nat} {spare : Nat → Bool} {held : Bool} (fuel : Nat) (cs : List Value) (y : DataW H × List MemPlace)
    (h : DataW.trod enc Tryz.prog W base spare held fuel 164 cs = some y) : ∃ x : CoilD, cs = x.cells := by
  obtain ⟨xs, n, -, -, hl, hlen, hf⟩ := DataW.trod_struct Tryz.underlying164 h
  rw [show Tryz.prog.cellsOf 164 = 8 by kernel_rfl] at hl
  match xs, hlen with
  | [y0, y1, y2, y3, y4, y5, y6, y7], _ =>
    match cs, hl with
    | [c0, c1, c2, c3, c4, c5, c6, c7], _ =>
      obtain ⟨a0, e0, -, -⟩ := DataW.trod_string Tryz.underlying9 ((hf 0 _ rfl).trans (rfl : _ = some y0))
      obtain ⟨a1, e1, -, -⟩ := DataW.trod_int Tryz.underlying3 ((hf 1 _ rfl).trans (rfl : _ = some y1))
      obtain ⟨a2, e2, -, -⟩ := DataW.trod_int Tryz.underlying3 ((hf 2 _ rfl).trans (rfl : _ = some y2))
      obtain ⟨a3, e3, -, -⟩ := DataW.trod_int Tryz.underlying3 ((hf 3 _ rfl).trans (rfl : _ = some y3))
      obtain ⟨a4, e4, -, -⟩ := DataW.trod_int Tryz.underlying3 ((hf 4 _ rfl).trans (rfl : _ = some y4))
      obtain ⟨a5, e5, -, -⟩ := DataW.trod_int Tryz.underlying3 ((hf 5 _ rfl).trans (rfl : _ = some y5))
      obtain ⟨a6, e6, -, -⟩ := DataW.trod_int Tryz.underlying3 ((hf 6 _ rfl).trans (rfl : _ = some y6))
      obtain ⟨a7, e7, -, -⟩ := DataW.trod_int Tryz.underlying3 ((hf 7 _ rfl).trans (rfl : _ = some y7))
      simp [cells_int, cells_string] at e0
      simp [cells_int, cells_string] at e1
      simp [cells_int, cells_string] at e2
      simp [cells_int, cells_string] at e3
      simp [cells_int, cells_string] at e4
      simp [cells_int, cells_string] at e5
      simp [cells_int, cells_string] at e6
      simp [cells_int, cells_string] at e7
      subst e0 e1 e2 e3 e4 e5 e6 e7
      exact ⟨⟨a0, a1, a2, a3, a4, a5, a6, a7⟩, rfl⟩
theorem dec_Shell {W : World} {base : Nat} {spare : Nat → Bool} {held : Bool} (fuel : Nat) (cs : List Value) (y : DataW H × List MemPlace)
    (h : DataW.trod enc Tryz.prog W base spare held fuel 168 cs = some y) : ∃ x : ShellD, cs = x.cells := by
  obtain ⟨xs, n, -, -, hl, hlen, hf⟩ := DataW.trod_struct Tryz.underlying168 h
  rw [show Tryz.prog.cellsOf 168 = 4 by kernel_rfl] at hl
  match xs, hlen with
  | [y0, y1, y2, y3], _ =>
    match cs, hl with
    | [c0, c1, c2, c3], _ =>
      obtain ⟨a0, e0, -, -⟩ := DataW.trod_int Tryz.underlying3 ((hf 0 _ rfl).trans (rfl : _ = some y0))
      obtain ⟨a1, e1, -, -⟩ := DataW.trod_int Tryz.underlying3 ((hf 1 _ rfl).trans (rfl : _ = some y1))
      obtain ⟨a2, e2, -, -⟩ := DataW.trod_int Tryz.underlying3 ((hf 2 _ rfl).trans (rfl : _ = some y2))
      obtain ⟨a3, e3, -, -⟩ := DataW.trod_int Tryz.underlying3 ((hf 3 _ rfl).trans (rfl : _ = some y3))
      simp [cells_int, cells_string] at e0
      simp [cells_int, cells_string] at e1
      simp [cells_int, cells_string] at e2
      simp [cells_int, cells_string] at e3
      subst e0 e1 e2 e3
      exact ⟨⟨a0, a1, a2, a3⟩, rfl⟩
theorem dec_Point {W : World} {base : Nat} {spare : Nat → Bool} {held : Bool} (fuel : Nat) (cs : List Value) (y : DataW H × List MemPlace)
    (h : DataW.trod enc Tryz.prog W base spare held fuel 36 cs = some y) : ∃ x : PointD, cs = x.cells := by
  obtain ⟨xs, n, -, -, hl, hlen, hf⟩ := DataW.trod_struct Tryz.underlying36 h
  rw [show Tryz.prog.cellsOf 36 = 2 by kernel_rfl] at hl
  match xs, hlen with
  | [y0, y1], _ =>
    match cs, hl with
    | [c0, c1], _ =>
      obtain ⟨a0, e0, -, -⟩ := DataW.trod_int Tryz.underlying3 ((hf 0 _ rfl).trans (rfl : _ = some y0))
      obtain ⟨a1, e1, -, -⟩ := DataW.trod_int Tryz.underlying3 ((hf 1 _ rfl).trans (rfl : _ = some y1))
      simp [cells_int, cells_string] at e0
      simp [cells_int, cells_string] at e1
      subst e0 e1
      exact ⟨⟨a0, a1⟩, rfl⟩
theorem dec_Sensor {W : World} {base : Nat} {spare : Nat → Bool} {held : Bool} (fuel : Nat) (cs : List Value) (y : DataW H × List MemPlace)
    (h : DataW.trod enc Tryz.prog W base spare held fuel 174 cs = some y) : ∃ x : SensorD, cs = x.cells := by
  obtain ⟨xs, n, -, -, hl, hlen, hf⟩ := DataW.trod_struct Tryz.underlying174 h
  rw [show Tryz.prog.cellsOf 174 = 5 by kernel_rfl] at hl
  match xs, hlen with
  | [y0, y1, y2, y3, y4], _ =>
    match cs, hl with
    | [c0, c1, c2, c3, c4], _ =>
      obtain ⟨a0, e0, -, -⟩ := DataW.trod_string Tryz.underlying9 ((hf 0 _ rfl).trans (rfl : _ = some y0))
      obtain ⟨a1, e1, -, -⟩ := DataW.trod_int Tryz.underlying3 ((hf 1 _ rfl).trans (rfl : _ = some y1))
      obtain ⟨a2, e2, -, -⟩ := DataW.trod_int Tryz.underlying3 ((hf 2 _ rfl).trans (rfl : _ = some y2))
      obtain ⟨a3, e3, -, -⟩ := DataW.trod_int Tryz.underlying3 ((hf 3 _ rfl).trans (rfl : _ = some y3))
      obtain ⟨a4, e4, -, -⟩ := DataW.trod_int Tryz.underlying3 ((hf 4 _ rfl).trans (rfl : _ = some y4))
      simp [cells_int, cells_string] at e0
      simp [cells_int, cells_string] at e1
      simp [cells_int, cells_string] at e2
      simp [cells_int, cells_string] at e3
      simp [cells_int, cells_string] at e4
      subst e0 e1 e2 e3 e4
      exact ⟨⟨a0, a1, a2, a3, a4⟩, rfl⟩
theorem dec_Span {W : World} {base : Nat} {spare : Nat → Bool} {held : Bool} (fuel : Nat) (cs : List Value) (y : DataW H × List MemPlace)
    (h : DataW.trod enc Tryz.prog W base spare held fuel 52 cs = some y) : ∃ x : SpanD, cs = x.cells := by
  obtain ⟨xs, n, -, -, hl, hlen, hf⟩ := DataW.trod_struct Tryz.underlying52 h
  rw [show Tryz.prog.cellsOf 52 = 2 by kernel_rfl] at hl
  match xs, hlen with
  | [y0, y1], _ =>
    match cs, hl with
    | [c0, c1], _ =>
      obtain ⟨a0, e0, -, -⟩ := DataW.trod_int Tryz.underlying3 ((hf 0 _ rfl).trans (rfl : _ = some y0))
      obtain ⟨a1, e1, -, -⟩ := DataW.trod_int Tryz.underlying3 ((hf 1 _ rfl).trans (rfl : _ = some y1))
      simp [cells_int, cells_string] at e0
      simp [cells_int, cells_string] at e1
      subst e0 e1
      exact ⟨⟨a0, a1⟩, rfl⟩
structure OpM (w : World) (R : MachR) (M : MachD) : Prop where
  coils : IsT 8 CoilD.cells w R.A R.la M.coils
  shells : IsT 4 ShellD.cells w R.B R.lb M.shells
  limits : IsT 2 PointD.cells w R.C R.lc M.limits
  sensors : IsT 5 SensorD.cells w R.D R.ld M.sensors
  la : R.la ≤ R.ca
  lb : R.lb ≤ R.cb
  lc : R.lc ≤ R.cc
  ld : R.ld ≤ R.cd
  ca : R.ca ≤ 9223372036854775807
  cb : R.cb ≤ 9223372036854775807
  cc : R.cc ≤ 9223372036854775807
  cd : R.cd ≤ 9223372036854775807
theorem OpM.isM {w : World} {R : MachR} {M : MachD} (h : OpM w R M) (ka : R.la ≤ 1000000000000000) (kb : R.lb ≤ 1000000000000000) (kc : R.lc ≤ 1000000000000000) (kd : R.ld ≤ 1000000000000000) : IsM w R M :=
  ⟨h.coils, h.shells, h.limits, h.sensors, h.la, h.lb, h.lc, h.ld, h.ca, h.cb, h.cc, h.cd, ka, kb, kc, kd⟩
theorem open_spans {W : World} {b0 : Nat} {r : Reach} {v : Value} {d : DataW H} {p : List MemPlace}
    (hv : Value.okWide Tryz.prog W r b0 45 v) (h : DataW.Trod enc Tryz.prog W 0 (fun _ => true) true 45 v d p) :
    ∃ (A : Option Addr) (len cap : Nat) (zs : List SpanD), v = .slice A len cap ∧ IsT 2 SpanD.cells W A len zs ∧ len ≤ maxLen ∧ len ≤ cap ∧ cap ≤ maxLen :=
  open_isT (n := 2) (E := SpanD.cells) (fun _ => rfl) Tryz.underlying45 (by kernel_rfl) (by decide) dec_Span hv h
theorem shut_spans {W W' : World} {v : Value} {d : DataW H} {p : List MemPlace} (h : DataW.Trod enc Tryz.prog W 0 (fun _ => true) true 45 v d p) (hb : Below W.heap.size W W') (hlt : ∀ x ∈ p, x.block < W.heap.size) :
    DataW.Trod enc Tryz.prog W' 0 (fun b => decide (b < W.heap.size)) true 45 v d p :=
  Below.trod (by kernel_rfl) (by kernel_rfl) (of_decide_eq_true (by kernel_rfl)) h hb hlt
end
end
section
set_option maxRecDepth 100000
open Go.ChangeShapes Go.WideShapes Go.ChangeAt Go.RowKit Go.Joins Go.Deep
section
variable {H : Type} {enc : TypeId × Value → H}
theorem dec_intI {W : World} {base : Nat} {spare : Nat → Bool} {held : Bool} (fuel : Nat) (cs : List Value) (y : DataW H × List MemPlace)
    (h : DataW.trod enc Tryz.prog W base spare held fuel 3 cs = some y) : ∃ x : Int, cs = intCells x := by
  obtain ⟨a, e, _, _⟩ := DataW.trod_int Tryz.underlying3 h
  exact ⟨a, e⟩
structure OpC (w : World) (Q : CurR) (C : CurD) : Prop where
  coils : IsT 1 intCells w Q.A Q.la C.coils
  shells : IsT 1 intCells w Q.B Q.lb C.shells
  plasma : IsT 1 intCells w Q.C Q.lc C.plasma
  la : Q.la ≤ Q.ca
  lb : Q.lb ≤ Q.cb
  lc : Q.lc ≤ Q.cc
  ca : Q.ca ≤ 9223372036854775807
  cb : Q.cb ≤ 9223372036854775807
  cc : Q.cc ≤ 9223372036854775807
theorem OpC.isC {w : World} {Q : CurR} {C : CurD} (h : OpC w Q C) (ka : Q.la ≤ 1000000000000000) (kb : Q.lb ≤ 1000000000000000) (kc : Q.lc ≤ 1000000000000000) : IsC w Q C :=
  ⟨h.coils, h.shells, h.plasma, h.la, h.lb, h.lc, h.ca, h.cb, h.cc, ka, kb, kc⟩
end
end
end Go.Proofs.YtogcjgjhmlifgaaGreat
