import Derived.Test.YtogcjgjhmlifgaaGreatOAA
import Derived.Test.YtogcjgjhmlifgaaGreatOAE
import Derived.Test.YtogcjgjhmlifgaaGreatOAG
import Derived.Test.YtogcjgjhmlifgaaGreatOBN
import Derived.Test.YtogcjgjhmlifgaaGreatRows
import Derived.KernelRfl
import Derived.Laws.StructEq
import Derived.ProofKit
import Derived.OpenShut
import Derived.Lib.SmallJoins
import Derived.Deep.Slices
import Derived.Carry
namespace Go.Proofs.YtogcjgjhmlifgaaGreat
set_option linter.unusedVariables false
set_option linter.unusedSimpArgs false
section
open Go.RowKit
set_option maxRecDepth 100000 in
theorem excl_walk (R : MachR) (M : MachD) (Q : CurR) (C : CurD) (g : Int) (X : Option Addr) (nx cx : Nat) (xs : List SpanD) (J : Option Addr) (nj cj : Nat) (js : List Int) (w : World) (hM0 : R.la ≤ 1000000000000000 → R.lb ≤ 1000000000000000 → R.lc ≤ 1000000000000000 → R.ld ≤ 1000000000000000 → IsM w R M) (hC0 : Q.la ≤ 1000000000000000 → Q.lb ≤ 1000000000000000 → Q.lc ≤ 1000000000000000 → IsC w Q C) (hS : IsT 2 SpanD.cells w X nx xs) (hJ : IsT 1 intCells w J nj js) : Calls Tryz.prog 7 #[(.agg #[.string M.name, .slice R.A R.la R.ca, .slice R.B R.lb R.cb, .slice R.C R.lc R.cc, .int .i64 M.grid.r, .int .i64 M.grid.z, .int .i64 M.grid.nr, .int .i64 M.grid.nz, .int .i64 M.grid.step, .slice R.D R.ld R.cd, .slice Q.A Q.la Q.ca, .slice Q.B Q.lb Q.cb, .slice Q.C Q.lc Q.cc, .int .i64 g]), (.slice X nx cx), (.slice J nj cj)] w (Ret (.bool true) w) := by
  refine calls_ax (vs := [(.agg #[.string M.name, .slice R.A R.la R.ca, .slice R.B R.lb R.cb, .slice R.C R.lc R.cc, .int .i64 M.grid.r, .int .i64 M.grid.z, .int .i64 M.grid.nr, .int .i64 M.grid.nz, .int .i64 M.grid.step, .slice R.D R.ld R.cd, .slice Q.A Q.la Q.ca, .slice Q.B Q.lb Q.cb, .slice Q.C Q.lc Q.cc, .int .i64 g]), (.slice X nx cx), (.slice J nj cj)]) Tryz.func7 rfl rfl ?_
  refine ac_seq (ac_region ?_)
  refine al_new (fun b => .pointer (some ⟨b, 0, none⟩)) (r_box rfl rfl) rfl rfl rfl ?_
  intro b1
  refine al_p (q_assign rfl) (al_end (aq_then ?_))
  refine ac_seq (ac_seq (ac_region ?_))
  refine al_p (q_loadAll (i := 0) rfl rfl Tryz.isAgg34 Tryz.sizeOf34 rfl) (al_call Tryz.call9 (.cons rfl .nil) rfl rfl (fun w1 hs1 => ?_))
  refine (brief5_any R M Q g _).mono ?_
  rintro e u1 ⟨bb, rfl, hbb, hb_1⟩
  refine ⟨_, rfl, hb_1, ?_⟩
  clear hs1
  refine al_p (q_not rfl) (al_p (q_move rfl) ?_)
  refine aq_split 16 rfl (fun hb1 => ?_) (fun hb1 => ?_)
  · skip
    refine al_skip rfl rfl rfl (al_skip rfl rfl rfl (al_skip rfl rfl rfl (al_skip rfl rfl rfl (al_p (q_pickT rfl rfl) ?_))))
    refine al_end (aq_then ?_)
    refine ac_condT rfl (ac_seq (ac_region ?_))
    refine al_call Tryz.call10 .nil rfl rfl (fun w2 hs2 => ?_)
    refine (awake5_any _).mono ?_
    rintro e u2 ⟨rfl, hb_2⟩
    refine ⟨_, rfl, hb_2, ?_⟩
    clear hs2
    refine al_p (q_assign rfl) (al_end (aq_then ?_))
    refine ac_ret (aq_thenR (ret1 Tryz.results7 rfl (fun w9 hs => ?_)))
    exact ⟨rfl, hs.below⟩
  · obtain ⟨u1, u2, u3, u4, u5, u6, u7⟩ := hbb (by simpa using hb1)
    have hM := hM0 (by omega) (by omega) (by omega) (by omega)
    have hC := hC0 (by omega) (by omega) (by omega)
    refine al_p (q_loadAll (i := 0) rfl rfl Tryz.isAgg34 Tryz.sizeOf34 rfl) (al_p (q_move rfl) (al_call Tryz.call35 (.cons rfl (.cons rfl .nil)) rfl rfl (fun w3 hs3 => ?_)))
    refine (boxed_any R M Q C g X nx cx xs _ (hM.below hs3.below) (hC.below hs3.below) (hS.below hs3.below)).mono ?_
    rintro e u3 ⟨bx, rfl, hbx0, hb_3⟩
    refine ⟨_, rfl, hb_3, ?_⟩
    clear hs3
    refine al_p (q_not rfl) (al_p (q_pickF rfl rfl) (al_end (aq_then ?_)))
    refine ac_cond rfl (fun h1 => ?_) (fun h1 => ?_)
    · skip
      refine ac_seq (ac_region ?_)
      refine al_call Tryz.call10 .nil rfl rfl (fun w4 hs4 => ?_)
      refine (awake5_any _).mono ?_
      rintro e u4 ⟨rfl, hb_4⟩
      refine ⟨_, rfl, hb_4, ?_⟩
      clear hs4
      refine al_p (q_assign rfl) (al_end (aq_then ?_))
      refine ac_ret (aq_thenR (ret1 Tryz.results7 rfl (fun w9 hs => ?_)))
      exact ⟨rfl, hs.below⟩
    · obtain ⟨hv, g1, g2, hb⟩ := hbx0 (by simpa using h1)
      have hX := boxB_iff.1 hb
      have hX6 := fit_up hX g2
      have hf : Fit2 M C := fit2_iff.1 hv
      have hok : bnE M C xs = 0 := if_pos (by unfold bnV; rw [hv, boxB_iff.2 hX6]; rfl)
      have hcn := cellN_eq hX.check
      have n1 := hS.1
      have n2 := hX.len
      have hbk : ∀ k, k < nx → 0 ≤ (spA xs k).lo ∧ (spA xs k).lo ≤ (spA xs k).hi ∧ (spA xs k).hi ≤ 1000000 := fun k hk => by have := box_at hX (k := k) (by omega); omega
      have hin : ∀ k, k < nx → (spA xs k).lo ≤ iA (lst nx (pkA xs js)) k ∧ iA (lst nx (pkA xs js)) k ≤ (spA xs k).hi := fun k hk => by rw [iA_lst _ hk]; exact pkA_bd (hbk k hk).2.1
      have hjb : ∀ k, k < nx → 0 ≤ iA (lst nx (pkA xs js)) k ∧ iA (lst nx (pkA xs js)) k ≤ g := fun k hk => by have h1 := hin k hk; have h2 := box_at hX (k := k) (by omega); omega
      have hIn : InX (lst nx (ptX (lst nx (pkA xs js)))) xs (cellN M) := fun k hk => by rw [ptX_at _ (by omega)]; exact hin k (by omega)
      have hfj : FitX M g (lst nx (ptX (lst nx (pkA xs js)))) := ptX_fit hX.check (by omega) hjb
      have hi0 : 0 ≤ (Int.tmod (nj : Int) (nx : Int)) ∧ (Int.tmod (nj : Int) (nx : Int)) < nx := ⟨Int.tmod_nonneg _ (by omega), Int.tmod_lt_of_pos _ (by omega)⟩
      have hcs : chkS M g (Int.tmod (nj : Int) (nx : Int)) xs = 0 := chk_iff.2 ⟨hb, by rw [wthn_iff.2 ⟨g1, g2⟩, wthn_iff.2 (by omega : 0 ≤ (Int.tmod (nj : Int) (nx : Int)) ∧ (Int.tmod (nj : Int) (nx : Int)) ≤ (xs.length : Int) - 1)]; rfl⟩
      have hsp := split_one (js := (lst nx (pkA xs js))) (i := (Int.tmod (nj : Int) (nx : Int)).toNat) (xs := xs) (by omega) (fun k hk => hin k (by omega))
      refine ac_skip (aq_then (ac_seq (ac_region ?_)))
      refine al_p (q_move rfl) (al_p (q_move rfl) (al_call Tryz.call31 (.cons rfl (.cons rfl .nil)) rfl rfl (fun w5 hs5 => ?_)))
      refine (picked_any X nx cx xs J nj cj js _ (hS.below hs5.below) (hJ.below hs5.below) (by omega) hbk).mono ?_
      rintro e u5 ⟨A_j, c_j, rfl, N_j, hb_5⟩
      refine ⟨_, rfl, hb_5, ?_⟩
      clear hs5
      refine al_p (q_assign rfl) (al_end (aq_then ?_))
      refine ac_seq (ac_region ?_)
      refine al_p (q_fieldAddr 0 rfl Tryz.runUnderlying34 rfl Tryz.sizeOf29 (by decide) rfl) (al_p (q_loadSub (i := 0) rfl rfl Tryz.isAgg29 Tryz.sizeOf29 .k0 .k10) ?_)
      refine al_p (q_fieldAddr 10 rfl Tryz.runUnderlying34 rfl Tryz.sizeOf32 (by decide) rfl) (al_p (q_loadSub (i := 0) rfl rfl Tryz.isAgg32 Tryz.sizeOf32 .k10 .k3) ?_)
      refine al_p (q_fieldAddr 13 rfl Tryz.runUnderlying34 rfl Tryz.sizeOf3 (by decide) rfl) (al_p (q_load (i := 0) rfl rfl rfl Tryz.isAgg3) (al_p (q_move rfl) (al_call Tryz.call36 (.cons rfl (.cons rfl (.cons rfl (.cons rfl .nil)))) rfl rfl (fun w6 hs6 => ?_))))
      refine (misses_any R M Q C X nx cx xs g _ (hM.below hs6.below) (hC.below hs6.below) (hS.below hs6.below) hv hb g1 g2).mono ?_
      rintro e u6 ⟨z, ez, rfl, hms, hb_6⟩
      refine ⟨_, rfl, hb_6, ?_⟩
      clear hs6
      refine al_p (q_move rfl) (al_p (q_extract rfl rfl) (al_p (q_extract rfl rfl) (al_p (q_assign rfl) (al_p (q_assign rfl) ?_))))
      refine al_end (aq_then ?_)
      refine ac_seq (ac_seq (ac_region ?_))
      refine al_p (q_move rfl) (al_p (q_eql rfl rfl) (al_p (q_move rfl) ?_))
      refine aq_split 39 rfl (fun hb2 => ?_) (fun hb2 => ?_)
      · have hE : ez = 0 := eq_of_beq hb2
        refine al_p (q_move rfl) (al_p (q_geq rfl rfl) (al_p (q_pickT rfl rfl) (al_p (q_move rfl) ?_)))
        refine aq_split 43 rfl (fun hb3 => ?_) (fun hb3 => ?_)
        · have hz : 0 ≤ z := of_decide_eq_true hb3
          refine al_p (q_loadAll (i := 0) rfl rfl Tryz.isAgg34 Tryz.sizeOf34 rfl) (al_p (q_move rfl) (al_call Tryz.call37 (.cons rfl (.cons rfl .nil)) rfl rfl (fun w7 hs7 => ?_)))
          refine (own_any R M Q C g A_j nx c_j (lst nx (pkA xs js)) _ (hM.below hs7.below) (hC.below hs7.below) (hs7.newT (.tail _ (.head _)) N_j) hv (by omega) g1 g2 hjb).mono ?_
          rintro e u7 ⟨bo, rfl, hown, hb_7⟩
          refine ⟨_, rfl, hb_7, ?_⟩
          clear hs7
          refine al_p (q_pickT rfl rfl) (al_end (aq_then ?_))
          refine ac_cond rfl (fun h2 => ?_) (fun h2 => ?_)
          · exfalso
            obtain ⟨k, hk, hl⟩ := hms hE hz
            obtain ⟨-, ho⟩ := hown h2
            have hmo := imA_mono (t := g) (by omega) hIn hf hX hfj g2 hk
            have hok1 := ho k (by omega)
            have hik := hin k (by omega)
            have hl2 := lies0 hl
            omega
          · skip
            refine ac_skip (aq_then (ac_seq (ac_draw 17 (by kernel_rfl) (by kernel_rfl) ?_)))
            refine ah_t 0 (fun w9 hs => hs) rfl rfl (by kernel_rfl) (q_fieldAddr 0 rfl Tryz.runUnderlying34 rfl Tryz.sizeOf29 (by decide) rfl) (ah_t 1 (fun w9 hs => hs) rfl rfl (by kernel_rfl) (q_loadSub (i := 0) rfl rfl Tryz.isAgg29 Tryz.sizeOf29 .k0 .k10) ?_)
            refine ah_t 2 (fun w9 hs => hs) rfl rfl (by kernel_rfl) (q_fieldAddr 13 rfl Tryz.runUnderlying34 rfl Tryz.sizeOf3 (by decide) rfl) (ah_t 3 (fun w9 hs => hs) rfl rfl (by kernel_rfl) (q_load (i := 0) rfl rfl rfl Tryz.isAgg3) (ah_t 4 (fun w9 hs => hs) rfl rfl (by kernel_rfl) (q_move rfl) (ah_t 5 (fun w9 hs => hs) rfl rfl (by kernel_rfl) (q_move rfl) (ah_t 6 (fun w9 hs => hs) rfl rfl (by kernel_rfl) (q_lenS rfl Tryz.runUnderlying30) ?_))))
            refine ah_t 7 (fun w9 hs => hs) rfl rfl (by kernel_rfl) (q_move rfl) (ah_t 8 (fun w9 hs => hs) rfl rfl (by kernel_rfl) (q_lenS rfl Tryz.runUnderlying45) ?_)
            refine ah_t 9 (fun w9 hs => hs) rfl rfl (by kernel_rfl) (q_rem rfl rfl (by omega)) (ah_one 10 rfl (by kernel_rfl) (fun hok1 hcl1 => ?_))
            refine al_call Tryz.call19 (.cons rfl (.cons rfl (.cons rfl (.cons rfl .nil)))) rfl rfl (fun w8 hs8 => ?_)
            refine (split_any R M X nx cx xs g (Int.tmod (nj : Int) (nx : Int)) _ (hM.below hs8.below) (hS.below hs8.below) (by omega)).mono ?_
            rintro e u8 ⟨A_c, n_c, c_c, A_d, n_d, c_d, rfl, N_c, N_d, hb_8⟩
            rw [show spR M g (Int.tmod (nj : Int) (nx : Int)) xs (loX xs (Int.tmod (nj : Int) (nx : Int)).toNat) = (loX xs (Int.tmod (nj : Int) (nx : Int)).toNat) from if_pos hcs] at N_c
            rw [show spR M g (Int.tmod (nj : Int) (nx : Int)) xs (upX xs (Int.tmod (nj : Int) (nx : Int)).toNat) = (upX xs (Int.tmod (nj : Int) (nx : Int)).toNat) from if_pos hcs] at N_d
            have len_c := N_c.isT.1
            have len_d := N_d.isT.1
            unfold loX at len_c
            unfold upX at len_d
            rw [List.length_set] at len_c len_d
            obtain rfl : nx = n_c := by omega
            obtain rfl : nx = n_d := by omega
            refine ⟨_, rfl, hb_8, ?_⟩
            clear hs8
            refine al_end (ah_back hok1 hcl1 (fun w9 hs => (hs.fewer 1 rfl)) ?_)
            refine ah_t 11 (fun w9 hs => (hs.fewer 1 rfl)) rfl rfl (by kernel_rfl) (q_move rfl) (ah_t 12 (fun w9 hs => (hs.fewer 1 rfl)) rfl rfl (by kernel_rfl) (q_extract rfl rfl) (ah_t 13 (fun w9 hs => (hs.fewer 1 rfl)) rfl rfl (by kernel_rfl) (q_extract rfl rfl) (ah_t 14 (fun w9 hs => (hs.fewer 1 rfl)) rfl rfl (by kernel_rfl) (q_extract rfl rfl) (ah_t 15 (fun w9 hs => (hs.fewer 1 rfl)) rfl rfl (by kernel_rfl) (q_assign rfl) ?_))))
            refine ah_t 16 (fun w9 hs => (hs.fewer 1 rfl)) rfl rfl (by kernel_rfl) (q_assign rfl) (ah_t 17 (fun w9 hs => (hs.fewer 1 rfl)) rfl rfl (by kernel_rfl) (q_assign rfl) (ah_done (by kernel_rfl) ?_))
            refine aq_then (ac_seq (ac_region ?_))
            refine al_p (q_move rfl) ?_
            refine al_p (q_same (v' := .bool true) (q_eql rfl rfl) (by rw [hcs]; rfl)) (al_p (q_move rfl) (al_p (q_move rfl) (al_p (q_move rfl) (al_call Tryz.call23 (.cons rfl (.cons rfl .nil)) rfl rfl (fun w9 hs9 => ?_)))))
            refine (holds5_any A_c nx c_c (loX xs (Int.tmod (nj : Int) (nx : Int)).toNat) A_j nx c_j (lst nx (pkA xs js)) _ (hs9.newT (.head _) N_c) (hs9.newT (.tail _ (.tail _ (.tail _ (.head _)))) N_j) (by omega)).mono ?_
            rintro e u9 ⟨rfl, hb_9⟩
            refine ⟨_, rfl, hb_9, ?_⟩
            clear hs9
            refine al_p (q_move rfl) ?_
            refine aq_split 69 rfl (fun hb4 => ?_) (fun hb4 => ?_)
            · skip
              refine al_skip rfl rfl rfl (al_skip rfl rfl rfl (al_skip rfl rfl rfl (al_p (q_pickT rfl rfl) (al_p (q_pickT rfl rfl) ?_))))
              refine al_p (q_move rfl) (al_call Tryz.call10 .nil rfl rfl (fun w10 hs10 => ?_))
              refine (awake5_any _).mono ?_
              rintro e u10 ⟨rfl, hb_10⟩
              refine ⟨_, rfl, hb_10, ?_⟩
              clear hs10
              refine al_p (q_pickT rfl rfl) (al_p (q_assign rfl) (al_end (aq_then ?_)))
              refine aq_keepL [6] (.cons rfl .nil) ?_
              refine ac_ret (ret1 Tryz.results7 rfl (fun w9 hs => ?_))
              exact ⟨rfl, hs.below⟩
            · have hup := hsp.resolve_left (fun g9 => by have h9 := of_decide_eq_false hb4; exact h9 ⟨rfl, by rw [n1] at g9; exact g9⟩)
              rw [n1] at hup
              refine al_p (q_move rfl) (al_p (q_move rfl) (al_call Tryz.call23 (.cons rfl (.cons rfl .nil)) rfl rfl (fun w11 hs11 => ?_)))
              refine (holdsY A_d nx c_d (upX xs (Int.tmod (nj : Int) (nx : Int)).toNat) A_j c_j (lst nx (pkA xs js)) _ (hs11.newT (.tail _ (.head _)) N_d) (hs11.newT (.tail _ (.tail _ (.tail _ (.tail _ (.head _))))) N_j) (by omega) hup).mono ?_
              rintro e u11 ⟨rfl, hb_11⟩
              refine ⟨_, rfl, hb_11, ?_⟩
              clear hs11
              refine al_p (q_pickF rfl rfl) (al_p (q_pickT rfl rfl) (al_p (q_move rfl) (al_call Tryz.call10 .nil rfl rfl (fun w12 hs12 => ?_))))
              refine (awake5_any _).mono ?_
              rintro e u12 ⟨rfl, hb_12⟩
              refine ⟨_, rfl, hb_12, ?_⟩
              clear hs12
              refine al_p (q_pickT rfl rfl) (al_p (q_assign rfl) (al_end (aq_then ?_)))
              refine ac_ret (ret1 Tryz.results7 rfl (fun w9 hs => ?_))
              exact ⟨rfl, hs.below⟩
        · skip
          refine al_skip rfl rfl rfl (al_skip rfl rfl rfl (al_skip rfl rfl rfl (al_p (q_pickF rfl rfl) (al_end (aq_then ?_)))))
          refine ac_condF rfl (ac_skip (aq_then (ac_seq (ac_draw 17 (by kernel_rfl) (by kernel_rfl) ?_))))
          refine ah_t 0 (fun w9 hs => hs) rfl rfl (by kernel_rfl) (q_fieldAddr 0 rfl Tryz.runUnderlying34 rfl Tryz.sizeOf29 (by decide) rfl) (ah_t 1 (fun w9 hs => hs) rfl rfl (by kernel_rfl) (q_loadSub (i := 0) rfl rfl Tryz.isAgg29 Tryz.sizeOf29 .k0 .k10) ?_)
          refine ah_t 2 (fun w9 hs => hs) rfl rfl (by kernel_rfl) (q_fieldAddr 13 rfl Tryz.runUnderlying34 rfl Tryz.sizeOf3 (by decide) rfl) (ah_t 3 (fun w9 hs => hs) rfl rfl (by kernel_rfl) (q_load (i := 0) rfl rfl rfl Tryz.isAgg3) (ah_t 4 (fun w9 hs => hs) rfl rfl (by kernel_rfl) (q_move rfl) (ah_t 5 (fun w9 hs => hs) rfl rfl (by kernel_rfl) (q_move rfl) (ah_t 6 (fun w9 hs => hs) rfl rfl (by kernel_rfl) (q_lenS rfl Tryz.runUnderlying30) ?_))))
          refine ah_t 7 (fun w9 hs => hs) rfl rfl (by kernel_rfl) (q_move rfl) (ah_t 8 (fun w9 hs => hs) rfl rfl (by kernel_rfl) (q_lenS rfl Tryz.runUnderlying45) ?_)
          refine ah_t 9 (fun w9 hs => hs) rfl rfl (by kernel_rfl) (q_rem rfl rfl (by omega)) (ah_one 10 rfl (by kernel_rfl) (fun hok2 hcl2 => ?_))
          refine al_call Tryz.call19 (.cons rfl (.cons rfl (.cons rfl (.cons rfl .nil)))) rfl rfl (fun w13 hs13 => ?_)
          refine (split_any R M X nx cx xs g (Int.tmod (nj : Int) (nx : Int)) _ (hM.below hs13.below) (hS.below hs13.below) (by omega)).mono ?_
          rintro e u13 ⟨A_c, n_c, c_c, A_d, n_d, c_d, rfl, N_c, N_d, hb_13⟩
          rw [show spR M g (Int.tmod (nj : Int) (nx : Int)) xs (loX xs (Int.tmod (nj : Int) (nx : Int)).toNat) = (loX xs (Int.tmod (nj : Int) (nx : Int)).toNat) from if_pos hcs] at N_c
          rw [show spR M g (Int.tmod (nj : Int) (nx : Int)) xs (upX xs (Int.tmod (nj : Int) (nx : Int)).toNat) = (upX xs (Int.tmod (nj : Int) (nx : Int)).toNat) from if_pos hcs] at N_d
          have len_c := N_c.isT.1
          have len_d := N_d.isT.1
          unfold loX at len_c
          unfold upX at len_d
          rw [List.length_set] at len_c len_d
          obtain rfl : nx = n_c := by omega
          obtain rfl : nx = n_d := by omega
          refine ⟨_, rfl, hb_13, ?_⟩
          clear hs13
          refine al_end (ah_back hok2 hcl2 (fun w9 hs => (hs.fewer 1 rfl)) ?_)
          refine ah_t 11 (fun w9 hs => (hs.fewer 1 rfl)) rfl rfl (by kernel_rfl) (q_move rfl) (ah_t 12 (fun w9 hs => (hs.fewer 1 rfl)) rfl rfl (by kernel_rfl) (q_extract rfl rfl) (ah_t 13 (fun w9 hs => (hs.fewer 1 rfl)) rfl rfl (by kernel_rfl) (q_extract rfl rfl) (ah_t 14 (fun w9 hs => (hs.fewer 1 rfl)) rfl rfl (by kernel_rfl) (q_extract rfl rfl) (ah_t 15 (fun w9 hs => (hs.fewer 1 rfl)) rfl rfl (by kernel_rfl) (q_assign rfl) ?_))))
          refine ah_t 16 (fun w9 hs => (hs.fewer 1 rfl)) rfl rfl (by kernel_rfl) (q_assign rfl) (ah_t 17 (fun w9 hs => (hs.fewer 1 rfl)) rfl rfl (by kernel_rfl) (q_assign rfl) (ah_done (by kernel_rfl) ?_))
          refine aq_then (ac_seq (ac_region ?_))
          refine al_p (q_move rfl) ?_
          refine al_p (q_same (v' := .bool true) (q_eql rfl rfl) (by rw [hcs]; rfl)) (al_p (q_move rfl) (al_p (q_move rfl) (al_p (q_move rfl) (al_call Tryz.call23 (.cons rfl (.cons rfl .nil)) rfl rfl (fun w14 hs14 => ?_)))))
          refine (holds5_any A_c nx c_c (loX xs (Int.tmod (nj : Int) (nx : Int)).toNat) A_j nx c_j (lst nx (pkA xs js)) _ (hs14.newT (.head _) N_c) (hs14.newT (.tail _ (.tail _ (.head _))) N_j) (by omega)).mono ?_
          rintro e u14 ⟨rfl, hb_14⟩
          refine ⟨_, rfl, hb_14, ?_⟩
          clear hs14
          refine al_p (q_move rfl) ?_
          refine aq_split 69 rfl (fun hb5 => ?_) (fun hb5 => ?_)
          · skip
            refine al_skip rfl rfl rfl (al_skip rfl rfl rfl (al_skip rfl rfl rfl (al_p (q_pickT rfl rfl) (al_p (q_pickT rfl rfl) ?_))))
            refine al_p (q_move rfl) (al_call Tryz.call10 .nil rfl rfl (fun w15 hs15 => ?_))
            refine (awake5_any _).mono ?_
            rintro e u15 ⟨rfl, hb_15⟩
            refine ⟨_, rfl, hb_15, ?_⟩
            clear hs15
            refine al_p (q_pickT rfl rfl) (al_p (q_assign rfl) (al_end (aq_then ?_)))
            refine ac_ret (ret1 Tryz.results7 rfl (fun w9 hs => ?_))
            exact ⟨rfl, hs.below⟩
          · have hup := hsp.resolve_left (fun g9 => by have h9 := of_decide_eq_false hb5; exact h9 ⟨rfl, by rw [n1] at g9; exact g9⟩)
            rw [n1] at hup
            refine al_p (q_move rfl) (al_p (q_move rfl) (al_call Tryz.call23 (.cons rfl (.cons rfl .nil)) rfl rfl (fun w16 hs16 => ?_)))
            refine (holdsY A_d nx c_d (upX xs (Int.tmod (nj : Int) (nx : Int)).toNat) A_j c_j (lst nx (pkA xs js)) _ (hs16.newT (.tail _ (.head _)) N_d) (hs16.newT (.tail _ (.tail _ (.tail _ (.head _)))) N_j) (by omega) hup).mono ?_
            rintro e u16 ⟨rfl, hb_16⟩
            refine ⟨_, rfl, hb_16, ?_⟩
            clear hs16
            refine al_p (q_pickF rfl rfl) (al_p (q_pickT rfl rfl) (al_p (q_move rfl) (al_call Tryz.call10 .nil rfl rfl (fun w17 hs17 => ?_))))
            refine (awake5_any _).mono ?_
            rintro e u17 ⟨rfl, hb_17⟩
            refine ⟨_, rfl, hb_17, ?_⟩
            clear hs17
            refine al_p (q_pickT rfl rfl) (al_p (q_assign rfl) (al_end (aq_then ?_)))
            refine ac_ret (ret1 Tryz.results7 rfl (fun w9 hs => ?_))
            exact ⟨rfl, hs.below⟩
      · skip
        refine al_skip rfl rfl rfl (al_skip rfl rfl rfl (al_p (q_pickF rfl rfl) (al_p (q_move rfl) (al_skip rfl rfl rfl ?_))))
        refine al_skip rfl rfl rfl (al_skip rfl rfl rfl (al_p (q_pickF rfl rfl) (al_end (aq_then ?_))))
        refine ac_condF rfl (ac_skip (aq_then (ac_seq (ac_draw 17 (by kernel_rfl) (by kernel_rfl) ?_))))
        refine ah_t 0 (fun w9 hs => hs) rfl rfl (by kernel_rfl) (q_fieldAddr 0 rfl Tryz.runUnderlying34 rfl Tryz.sizeOf29 (by decide) rfl) (ah_t 1 (fun w9 hs => hs) rfl rfl (by kernel_rfl) (q_loadSub (i := 0) rfl rfl Tryz.isAgg29 Tryz.sizeOf29 .k0 .k10) ?_)
        refine ah_t 2 (fun w9 hs => hs) rfl rfl (by kernel_rfl) (q_fieldAddr 13 rfl Tryz.runUnderlying34 rfl Tryz.sizeOf3 (by decide) rfl) (ah_t 3 (fun w9 hs => hs) rfl rfl (by kernel_rfl) (q_load (i := 0) rfl rfl rfl Tryz.isAgg3) (ah_t 4 (fun w9 hs => hs) rfl rfl (by kernel_rfl) (q_move rfl) (ah_t 5 (fun w9 hs => hs) rfl rfl (by kernel_rfl) (q_move rfl) (ah_t 6 (fun w9 hs => hs) rfl rfl (by kernel_rfl) (q_lenS rfl Tryz.runUnderlying30) ?_))))
        refine ah_t 7 (fun w9 hs => hs) rfl rfl (by kernel_rfl) (q_move rfl) (ah_t 8 (fun w9 hs => hs) rfl rfl (by kernel_rfl) (q_lenS rfl Tryz.runUnderlying45) ?_)
        refine ah_t 9 (fun w9 hs => hs) rfl rfl (by kernel_rfl) (q_rem rfl rfl (by omega)) (ah_one 10 rfl (by kernel_rfl) (fun hok3 hcl3 => ?_))
        refine al_call Tryz.call19 (.cons rfl (.cons rfl (.cons rfl (.cons rfl .nil)))) rfl rfl (fun w18 hs18 => ?_)
        refine (split_any R M X nx cx xs g (Int.tmod (nj : Int) (nx : Int)) _ (hM.below hs18.below) (hS.below hs18.below) (by omega)).mono ?_
        rintro e u18 ⟨A_c, n_c, c_c, A_d, n_d, c_d, rfl, N_c, N_d, hb_18⟩
        rw [show spR M g (Int.tmod (nj : Int) (nx : Int)) xs (loX xs (Int.tmod (nj : Int) (nx : Int)).toNat) = (loX xs (Int.tmod (nj : Int) (nx : Int)).toNat) from if_pos hcs] at N_c
        rw [show spR M g (Int.tmod (nj : Int) (nx : Int)) xs (upX xs (Int.tmod (nj : Int) (nx : Int)).toNat) = (upX xs (Int.tmod (nj : Int) (nx : Int)).toNat) from if_pos hcs] at N_d
        have len_c := N_c.isT.1
        have len_d := N_d.isT.1
        unfold loX at len_c
        unfold upX at len_d
        rw [List.length_set] at len_c len_d
        obtain rfl : nx = n_c := by omega
        obtain rfl : nx = n_d := by omega
        refine ⟨_, rfl, hb_18, ?_⟩
        clear hs18
        refine al_end (ah_back hok3 hcl3 (fun w9 hs => (hs.fewer 1 rfl)) ?_)
        refine ah_t 11 (fun w9 hs => (hs.fewer 1 rfl)) rfl rfl (by kernel_rfl) (q_move rfl) (ah_t 12 (fun w9 hs => (hs.fewer 1 rfl)) rfl rfl (by kernel_rfl) (q_extract rfl rfl) (ah_t 13 (fun w9 hs => (hs.fewer 1 rfl)) rfl rfl (by kernel_rfl) (q_extract rfl rfl) (ah_t 14 (fun w9 hs => (hs.fewer 1 rfl)) rfl rfl (by kernel_rfl) (q_extract rfl rfl) (ah_t 15 (fun w9 hs => (hs.fewer 1 rfl)) rfl rfl (by kernel_rfl) (q_assign rfl) ?_))))
        refine ah_t 16 (fun w9 hs => (hs.fewer 1 rfl)) rfl rfl (by kernel_rfl) (q_assign rfl) (ah_t 17 (fun w9 hs => (hs.fewer 1 rfl)) rfl rfl (by kernel_rfl) (q_assign rfl) (ah_done (by kernel_rfl) ?_))
        refine aq_then (aq_keepL [6, 7, 10, 11, 12] (.cons rfl (.cons rfl (.cons rfl (.cons rfl (.cons rfl .nil))))) ?_)
        refine ac_seq (ac_region ?_)
        refine al_p (q_move rfl) ?_
        refine al_p (q_same (v' := .bool true) (q_eql rfl rfl) (by rw [hcs]; rfl)) (al_p (q_move rfl) (al_p (q_move rfl) (al_p (q_move rfl) (al_call Tryz.call23 (.cons rfl (.cons rfl .nil)) rfl rfl (fun w19 hs19 => ?_)))))
        refine (holds5_any A_c nx c_c (loX xs (Int.tmod (nj : Int) (nx : Int)).toNat) A_j nx c_j (lst nx (pkA xs js)) _ (hs19.newT (.head _) N_c) (hs19.newT (.tail _ (.tail _ (.head _))) N_j) (by omega)).mono ?_
        rintro e u19 ⟨rfl, hb_19⟩
        refine ⟨_, rfl, hb_19, ?_⟩
        clear hs19
        refine al_p (q_move rfl) ?_
        refine aq_split 69 rfl (fun hb6 => ?_) (fun hb6 => ?_)
        · skip
          refine al_skip rfl rfl rfl (al_skip rfl rfl rfl (al_skip rfl rfl rfl (al_p (q_pickT rfl rfl) (al_p (q_pickT rfl rfl) ?_))))
          refine al_p (q_move rfl) (al_call Tryz.call10 .nil rfl rfl (fun w20 hs20 => ?_))
          refine (awake5_any _).mono ?_
          rintro e u20 ⟨rfl, hb_20⟩
          refine ⟨_, rfl, hb_20, ?_⟩
          clear hs20
          refine al_p (q_pickT rfl rfl) (al_p (q_assign rfl) (al_end (aq_then ?_)))
          refine ac_ret (ret1 Tryz.results7 rfl (fun w9 hs => ?_))
          exact ⟨rfl, hs.below⟩
        · have hup := hsp.resolve_left (fun g9 => by have h9 := of_decide_eq_false hb6; exact h9 ⟨rfl, by rw [n1] at g9; exact g9⟩)
          rw [n1] at hup
          refine al_p (q_move rfl) (al_p (q_move rfl) (al_call Tryz.call23 (.cons rfl (.cons rfl .nil)) rfl rfl (fun w21 hs21 => ?_)))
          refine (holdsY A_d nx c_d (upX xs (Int.tmod (nj : Int) (nx : Int)).toNat) A_j c_j (lst nx (pkA xs js)) _ (hs21.newT (.tail _ (.head _)) N_d) (hs21.newT (.tail _ (.tail _ (.tail _ (.head _)))) N_j) (by omega) hup).mono ?_
          rintro e u21 ⟨rfl, hb_21⟩
          refine ⟨_, rfl, hb_21, ?_⟩
          clear hs21
          refine al_p (q_pickF rfl rfl) (al_p (q_pickT rfl rfl) (al_p (q_move rfl) (al_call Tryz.call10 .nil rfl rfl (fun w22 hs22 => ?_))))
          refine (awake5_any _).mono ?_
          rintro e u22 ⟨rfl, hb_22⟩
          refine ⟨_, rfl, hb_22, ?_⟩
          clear hs22
          refine al_p (q_pickT rfl rfl) (al_p (q_assign rfl) (al_end (aq_then ?_)))
          refine ac_ret (ret1 Tryz.results7 rfl (fun w9 hs => ?_))
          exact ⟨rfl, hs.below⟩
end
section
set_option maxRecDepth 100000
open Go.ChangeShapes Go.WideShapes Go.ChangeAt Go.RowKit Go.Joins
theorem own : ownKnob Tryz.prog.godebug = none := by kernel_rfl
theorem cells_int : Tryz.prog.cellsOf 3 = 1 := by kernel_rfl
section
variable {H : Type} {enc : TypeId × Value → H}
end
end
section
set_option maxRecDepth 100000
open Go.ChangeShapes Go.WideShapes Go.ChangeAt Go.RowKit Go.Joins Go.Deep
section
variable {H : Type} {enc : TypeId × Value → H}
theorem open_isT {α : Type} {E : α → List Value} {n : Nat} (h0 : ∀ x, (E x).length = n) {t e : TypeId} {W : World} {b0 : Nat} {r : Reach} {v : Value} {d : DataW H} {p : List MemPlace}
    (ht : Tryz.prog.underlying t = some (.slice e)) (hc : Tryz.prog.cellsOf e = n) (hn : 0 < n)
    (dec : ∀ (fuel : Nat) (cs : List Value) (y : DataW H × List MemPlace), DataW.trod enc Tryz.prog W 0 (fun _ => true) true fuel e cs = some y → ∃ x : α, cs = E x)
    (hv : Value.okWide Tryz.prog W r b0 t v) (h : DataW.Trod enc Tryz.prog W 0 (fun _ => true) true t v d p) :
    ∃ (A : Option Addr) (len cap : Nat) (zs : List α), v = .slice A len cap ∧ IsT n E W A len zs ∧ len ≤ maxLen ∧ len ≤ cap ∧ cap ≤ maxLen := by
  obtain ⟨a, len, cap, rfl⟩ := okWide_slice ht hv
  obtain ⟨fuel, hf⟩ := h
  rcases open_slice ht hf with ⟨hcs, hx⟩ | ⟨a', len', cap', m, k, D, Pl, hcs, hb, hl, hm, hmm, hx, hi⟩
  · have hcs : [Value.slice a len cap] = [Value.slice none 0 0] := hcs
    injection hcs with hcs _
    injection hcs with e1 e2 e3
    subst e1 e2 e3
    exact ⟨_, _, _, [], rfl, IsT.nil _ _ _ _, Nat.zero_le _, Nat.zero_le _, Nat.zero_le _⟩
  · have hcs : [Value.slice a len cap] = [Value.slice (some a') len' cap'] := hcs
    injection hcs with hcs _
    injection hcs with e1 e2 e3
    subst e1 e2 e3
    simp only [if_true] at hmm
    subst hmm
    have each : ∀ i, i < len → ∃ x : α, ∀ j, j < n → W.cell? (a'.add (i * n + j)) = (E x)[j]? := fun i hil => by
      obtain ⟨cs', h1, h2⟩ := hi i (by omega)
      obtain ⟨x, rfl⟩ := dec _ _ _ h2
      rw [hc] at h1
      obtain ⟨_, _, hcell⟩ := World.cells?_some h1
      refine ⟨x, fun j hj => ?_⟩
      have := hcell j hj
      rwa [add_add] at this
    by_cases hz : len = 0
    · subst hz
      exact ⟨_, _, _, [], rfl, IsT.nil _ _ _ _, Nat.zero_le _, Nat.zero_le _, hm⟩
    · obtain ⟨x0, _⟩ := each 0 (by omega)
      haveI : Inhabited α := ⟨x0⟩
      obtain ⟨z, hz'⟩ := choose_lt each
      refine ⟨_, _, _, (List.range len).map z, rfl, ⟨by simp, fun _ => ?_⟩, Nat.le_trans hl hm, hl, hm⟩
      have c0 := hz' 0 (by omega) 0 hn
      obtain ⟨v0, hv0⟩ : ∃ v0, (E (z 0))[0]? = some v0 := ⟨_, List.getElem?_eq_getElem (by rw [h0]; exact hn)⟩
      rw [hv0] at c0
      have hlt := World.block_lt_of_cell? W _ c0
      have hsp := World.cell?_spot c0
      obtain ⟨b, off, spot⟩ := a'
      have hspot : spot = none := by simpa [Addr.add] using hsp
      subst hspot
      rw [block_add] at hlt
      refine ⟨b, off, rfl, hlt, fun j x hx i v hv => ?_⟩
      have hj : j < len := by
        have := (List.getElem?_eq_some_iff.1 hx).1
        simpa using this
      have hx' : x = z j := by
        rw [List.getElem?_map, List.getElem?_range hj] at hx
        simpa using hx.symm
      subst hx'
      have hin : i < n := by
        have := (List.getElem?_eq_some_iff.1 hv).1
        rwa [h0] at this
      have := hz' j hj i hin
      rw [add_plain, hv] at this
      rw [← this]
      congr 2
      omega
end
end
section
set_option maxRecDepth 100000
open Go.ChangeShapes Go.WideShapes Go.ChangeAt Go.RowKit Go.Joins Go.Deep
theorem cells_string : Tryz.prog.cellsOf 9 = 1 := by kernel_rfl
section
variable {H : Type} {enc : TypeId × Value → H}
theorem open_isTc {α : Type} {E : α → List Value} {n : Nat} (h0 : ∀ x, (E x).length = n) {t e : TypeId} {W : World} {fuel : Nat} {cs : List Value} {y : DataW H × List MemPlace}
    (ht : Tryz.prog.underlying t = some (.slice e)) (hc : Tryz.prog.cellsOf e = n) (hn : 0 < n)
    (dec : ∀ (fuel : Nat) (cs : List Value) (y : DataW H × List MemPlace), DataW.trod enc Tryz.prog W 0 (fun _ => true) true fuel e cs = some y → ∃ x : α, cs = E x)
    (hf : DataW.trod enc Tryz.prog W 0 (fun _ => true) true fuel t cs = some y) :
    ∃ (A : Option Addr) (len cap : Nat) (zs : List α), cs = [.slice A len cap] ∧ IsT n E W A len zs ∧ len ≤ cap ∧ cap ≤ maxLen := by
  rcases open_slice ht hf with ⟨hcs, hx⟩ | ⟨a', len, cap, m, k, D, Pl, hcs, hb, hl, hm, hmm, hx, hi⟩
  · exact ⟨_, _, _, [], hcs, IsT.nil _ _ _ _, Nat.zero_le _, Nat.zero_le _⟩
  · simp only [if_true] at hmm
    subst hmm
    subst hcs
    have each : ∀ i, i < len → ∃ x : α, ∀ j, j < n → W.cell? (a'.add (i * n + j)) = (E x)[j]? := fun i hil => by
      obtain ⟨cs', h1, h2⟩ := hi i (by omega)
      obtain ⟨x, rfl⟩ := dec _ _ _ h2
      rw [hc] at h1
      obtain ⟨_, _, hcell⟩ := World.cells?_some h1
      refine ⟨x, fun j hj => ?_⟩
      have := hcell j hj
      rwa [add_add] at this
    by_cases hz : len = 0
    · subst hz
      exact ⟨_, _, _, [], rfl, IsT.nil _ _ _ _, Nat.zero_le _, hm⟩
    · obtain ⟨x0, _⟩ := each 0 (by omega)
      haveI : Inhabited α := ⟨x0⟩
      obtain ⟨z, hz'⟩ := choose_lt each
      refine ⟨_, _, _, (List.range len).map z, rfl, ⟨by simp, fun _ => ?_⟩, hl, hm⟩
      have c0 := hz' 0 (by omega) 0 hn
      obtain ⟨v0, hv0⟩ : ∃ v0, (E (z 0))[0]? = some v0 := ⟨_, List.getElem?_eq_getElem (by rw [h0]; exact hn)⟩
      rw [hv0] at c0
      have hlt := World.block_lt_of_cell? W _ c0
      have hsp := World.cell?_spot c0
      obtain ⟨b, off, spot⟩ := a'
      have hspot : spot = none := by simpa [Addr.add] using hsp
      subst hspot
      rw [block_add] at hlt
      refine ⟨b, off, rfl, hlt, fun j x hx i v hv => ?_⟩
      have hj : j < len := by
        have := (List.getElem?_eq_some_iff.1 hx).1
        simpa using this
      have hx' : x = z j := by
        rw [List.getElem?_map, List.getElem?_range hj] at hx
        simpa using hx.symm
      subst hx'
      have hin : i < n := by
        have := (List.getElem?_eq_some_iff.1 hv).1
        rwa [h0] at this
      have := hz' j hj i hin
      rw [add_plain, hv] at this
      rw [← this]
      congr 2
      omega
theorem dec_Coil {W : World} {base : Nat} {spare : Nat → Bool} {held : Bool} (fuel : Nat) (cs : List Value) (y : DataW H × List MemPlace)
    (h : DataW.trod enc Tryz.prog W base spare held fuel 164 cs = some y) : ∃ x : CoilD, cs = x.cells := by
  obtain ⟨xs, n, -, -, hl, hlen, hf⟩ := DataW.trod_struct Tryz.underlying164 h
  rw [show Tryz.prog.cellsOf 164 = 8 by kernel_rfl] at hl
  match xs, hlen with
  | [y0, y1, y2, y3, y4, y5, y6, y7], _ =>
    match cs, hl with
    | [c0, c1, c2, c3, c4, c5, c6, c7], _ =>
      obtain ⟨a0, e0, -, -⟩ := DataW.trod_string Tryz.underlying9 ((hf 0 _ rfl).trans (rfl : _ = some y0))
      obtain ⟨a1, e1, -, -⟩ := DataW.trod_int Tryz.underlying3 ((hf 1 _ rfl).trans (rfl : _ = some y1))
      obtain ⟨a2, e2, -, -⟩ := DataW.trod_int Tryz.underlying3 ((hf 2 _ rfl).trans (rfl : _ = some y2))
      obtain ⟨a3, e3, -, -⟩ := DataW.trod_int Tryz.underlying3 ((hf 3 _ rfl).trans (rfl : _ = some y3))
      obtain ⟨a4, e4, -, -⟩ := DataW.trod_int Tryz.underlying3 ((hf 4 _ rfl).trans (rfl : _ = some y4))
      obtain ⟨a5, e5, -, -⟩ := DataW.trod_int Tryz.underlying3 ((hf 5 _ rfl).trans (rfl : _ = some y5))
      obtain ⟨a6, e6, -, -⟩ := DataW.trod_int Tryz.underlying3 ((hf 6 _ rfl).trans (rfl : _ = some y6))
      obtain ⟨a7, e7, -, -⟩ := DataW.trod_int Tryz.underlying3 ((hf 7 _ rfl).trans (rfl : _ = some y7))
      simp [cells_int, cells_string] at e0
      simp [cells_int, cells_string] at e1
      simp [cells_int, cells_string] at e2
      simp [cells_int, cells_string] at e3
      simp [cells_int, cells_string] at e4
      simp [cells_int, cells_string] at e5
      simp [cells_int, cells_string] at e6
      simp [cells_int, cells_string] at e7
      subst e0 e1 e2 e3 e4 e5 e6 e7
      exact ⟨⟨a0, a1, a2, a3, a4, a5, a6, a7⟩, rfl⟩
theorem dec_Shell {W : World} {base : Nat} {spare : Nat → Bool} {held : Bool} (fuel : Nat) (cs : List Value) (y : DataW H × List MemPlace)
    (h : DataW.trod enc Tryz.prog W base spare held fuel 168 cs = some y) : ∃ x : ShellD, cs = x.cells := by
  obtain ⟨xs, n, -, -, hl, hlen, hf⟩ := DataW.trod_struct Tryz.underlying168 h
  rw [show Tryz.prog.cellsOf 168 = 4 by kernel_rfl] at hl
  match xs, hlen with
  | [y0, y1, y2, y3], _ =>
    match cs, hl with
    | [c0, c1, c2, c3], _ =>
      obtain ⟨a0, e0, -, -⟩ := DataW.trod_int Tryz.underlying3 ((hf 0 _ rfl).trans (rfl : _ = some y0))
      obtain ⟨a1, e1, -, -⟩ := DataW.trod_int Tryz.underlying3 ((hf 1 _ rfl).trans (rfl : _ = some y1))
      obtain ⟨a2, e2, -, -⟩ := DataW.trod_int Tryz.underlying3 ((hf 2 _ rfl).trans (rfl : _ = some y2))
      obtain ⟨a3, e3, -, -⟩ := DataW.trod_int Tryz.underlying3 ((hf 3 _ rfl).trans (rfl : _ = some y3))
      simp [cells_int, cells_string] at e0
      simp [cells_int, cells_string] at e1
      simp [cells_int, cells_string] at e2
      simp [cells_int, cells_string] at e3
      subst e0 e1 e2 e3
      exact ⟨⟨a0, a1, a2, a3⟩, rfl⟩
theorem dec_Point {W : World} {base : Nat} {spare : Nat → Bool} {held : Bool} (fuel : Nat) (cs : List Value) (y : DataW H × List MemPlace)
    (h : DataW.trod enc Tryz.prog W base spare held fuel 36 cs = some y) : ∃ x : PointD, cs = x.cells := by
  obtain ⟨xs, n, -, -, hl, hlen, hf⟩ := DataW.trod_struct Tryz.underlying36 h
  rw [show Tryz.prog.cellsOf 36 = 2 by kernel_rfl] at hl
  match xs, hlen with
  | [y0, y1], _ =>
    match cs, hl with
    | [c0, c1], _ =>
      obtain ⟨a0, e0, -, -⟩ := DataW.trod_int Tryz.underlying3 ((hf 0 _ rfl).trans (rfl : _ = some y0))
      obtain ⟨a1, e1, -, -⟩ := DataW.trod_int Tryz.underlying3 ((hf 1 _ rfl).trans (rfl : _ = some y1))
      simp [cells_int, cells_string] at e0
      simp [cells_int, cells_string] at e1
      subst e0 e1
      exact ⟨⟨a0, a1⟩, rfl⟩
theorem dec_Sensor {W : World} {base : Nat} {spare : Nat → Bool} {held : Bool} (fuel : Nat) (cs : List Value) (y : DataW H × List MemPlace)
    (h : DataW.trod enc Tryz.prog W base spare held fuel 174 cs = some y) : ∃ x : SensorD, cs = x.cells := by
  obtain ⟨xs, n, -, -, hl, hlen, hf⟩ := DataW.trod_struct Tryz.underlying174 h
  rw [show Tryz.prog.cellsOf 174 = 5 by kernel_rfl] at hl
  match xs, hlen with
  | [y0, y1, y2, y3, y4], _ =>
    match cs, hl with
    | [c0, c1, c2, c3, c4], _ =>
      obtain ⟨a0, e0, -, -⟩ := DataW.trod_string Tryz.underlying9 ((hf 0 _ rfl).trans (rfl : _ = some y0))
      obtain ⟨a1, e1, -, -⟩ := DataW.trod_int Tryz.underlying3 ((hf 1 _ rfl).trans (rfl : _ = some y1))
      obtain ⟨a2, e2, -, -⟩ := DataW.trod_int Tryz.underlying3 ((hf 2 _ rfl).trans (rfl : _ = some y2))
      obtain ⟨a3, e3, -, -⟩ := DataW.trod_int Tryz.underlying3 ((hf 3 _ rfl).trans (rfl : _ = some y3))
      obtain ⟨a4, e4, -, -⟩ := DataW.trod_int Tryz.underlying3 ((hf 4 _ rfl).trans (rfl : _ = some y4))
      simp [cells_int, cells_string] at e0
      simp [cells_int, cells_string] at e1
      simp [cells_int, cells_string] at e2
      simp [cells_int, cells_string] at e3
      simp [cells_int, cells_string] at e4
      subst e0 e1 e2 e3 e4
      exact ⟨⟨a0, a1, a2, a3, a4⟩, rfl⟩
theorem dec_Span {W : World} {base : Nat} {spare : Nat → Bool} {held : Bool} (fuel : Nat) (cs : List Value) (y : DataW H × List MemPlace)
    (h : DataW.trod enc Tryz.prog W base spare held fuel 52 cs = some y) : ∃ x : SpanD, cs = x.cells := by
  obtain ⟨xs, n, -, -, hl, hlen, hf⟩ := DataW.trod_struct Tryz.underlying52 h
  rw [show Tryz.prog.cellsOf 52 = 2 by kernel_rfl] at hl
  match xs, hlen with
  | [y0, y1], _ =>
    match cs, hl with
    | [c0, c1], _ =>
      obtain ⟨a0, e0, -, -⟩ := DataW.trod_int Tryz.underlying3 ((hf 0 _ rfl).trans (rfl : _ = some y0))
      obtain ⟨a1, e1, -, -⟩ := DataW.trod_int Tryz.underlying3 ((hf 1 _ rfl).trans (rfl : _ = some y1))
      simp [cells_int, cells_string] at e0
      simp [cells_int, cells_string] at e1
      subst e0 e1
      exact ⟨⟨a0, a1⟩, rfl⟩
structure OpM (w : World) (R : MachR) (M : MachD) : Prop where
  coils : IsT 8 CoilD.cells w R.A R.la M.coils
  shells : IsT 4 ShellD.cells w R.B R.lb M.shells
  limits : IsT 2 PointD.cells w R.C R.lc M.limits
  sensors : IsT 5 SensorD.cells w R.D R.ld M.sensors
  la : R.la ≤ R.ca
  lb : R.lb ≤ R.cb
  lc : R.lc ≤ R.cc
  ld : R.ld ≤ R.cd
  ca : R.ca ≤ 9223372036854775807
  cb : R.cb ≤ 9223372036854775807
  cc : R.cc ≤ 9223372036854775807
  cd : R.cd ≤ 9223372036854775807
theorem OpM.isM {w : World} {R : MachR} {M : MachD} (h : OpM w R M) (ka : R.la ≤ 1000000000000000) (kb : R.lb ≤ 1000000000000000) (kc : R.lc ≤ 1000000000000000) (kd : R.ld ≤ 1000000000000000) : IsM w R M :=
  ⟨h.coils, h.shells, h.limits, h.sensors, h.la, h.lb, h.lc, h.ld, h.ca, h.cb, h.cc, h.cd, ka, kb, kc, kd⟩
theorem open_spans {W : World} {b0 : Nat} {r : Reach} {v : Value} {d : DataW H} {p : List MemPlace}
    (hv : Value.okWide Tryz.prog W r b0 45 v) (h : DataW.Trod enc Tryz.prog W 0 (fun _ => true) true 45 v d p) :
    ∃ (A : Option Addr) (len cap : Nat) (zs : List SpanD), v = .slice A len cap ∧ IsT 2 SpanD.cells W A len zs ∧ len ≤ maxLen ∧ len ≤ cap ∧ cap ≤ maxLen :=
  open_isT (n := 2) (E := SpanD.cells) (fun _ => rfl) Tryz.underlying45 (by kernel_rfl) (by decide) dec_Span hv h
theorem shut_spans {W W' : World} {v : Value} {d : DataW H} {p : List MemPlace} (h : DataW.Trod enc Tryz.prog W 0 (fun _ => true) true 45 v d p) (hb : Below W.heap.size W W') (hlt : ∀ x ∈ p, x.block < W.heap.size) :
    DataW.Trod enc Tryz.prog W' 0 (fun b => decide (b < W.heap.size)) true 45 v d p :=
  Below.trod (by kernel_rfl) (by kernel_rfl) (of_decide_eq_true (by kernel_rfl)) h hb hlt
end
end
section
set_option maxRecDepth 100000
open Go.ChangeShapes Go.WideShapes Go.ChangeAt Go.RowKit Go.Joins Go.Deep
section
variable {H : Type} {enc : TypeId × Value → H}
theorem dec_intI {W : World} {base : Nat} {spare : Nat → Bool} {held : Bool} (fuel : Nat) (cs : List Value) (y : DataW H × List MemPlace)
    (h : DataW.trod enc Tryz.prog W base spare held fuel 3 cs = some y) : ∃ x : Int, cs = intCells x := by
  obtain ⟨a, e, _, _⟩ := DataW.trod_int Tryz.underlying3 h
  exact ⟨a, e⟩
structure OpC (w : World) (Q : CurR) (C : CurD) : Prop where
  coils : IsT 1 intCells w Q.A Q.la C.coils
  shells : IsT 1 intCells w Q.B Q.lb C.shells
  plasma : IsT 1 intCells w Q.C Q.lc C.plasma
  la : Q.la ≤ Q.ca
  lb : Q.lb ≤ Q.cb
  lc : Q.lc ≤ Q.cc
  ca : Q.ca ≤ 9223372036854775807
  cb : Q.cb ≤ 9223372036854775807
  cc : Q.cc ≤ 9223372036854775807
theorem OpC.isC {w : World} {Q : CurR} {C : CurD} (h : OpC w Q C) (ka : Q.la ≤ 1000000000000000) (kb : Q.lb ≤ 1000000000000000) (kc : Q.lc ≤ 1000000000000000) : IsC w Q C :=
  ⟨h.coils, h.shells, h.plasma, h.la, h.lb, h.lc, h.ca, h.cb, h.cc, ka, kb, kc⟩
end
end
section
set_option maxRecDepth 100000
open Go.ChangeShapes Go.WideShapes Go.ChangeAt Go.RowKit Go.Joins Go.Deep
section
variable {H : Type} {enc : TypeId × Value → H}
theorem open_machineC {W : World} {fuel : Nat} {cs : List Value} {y : DataW H × List MemPlace} (hf0 : DataW.trod enc Tryz.prog W 0 (fun _ => true) true fuel 29 cs = some y) : ∃ (R : MachR) (M : MachD), cs = (machCells R M).toList ∧ OpM W R M := by
  obtain ⟨d, p⟩ := y
  have hf1 := hf0
  obtain ⟨xs, n, -, -, hl, hlen, hf⟩ := DataW.trod_struct Tryz.underlying29 hf1
  rw [show Tryz.prog.cellsOf 29 = 10 by kernel_rfl] at hl
  match xs, hlen with
  | [y0, y1, y2, y3, y4, y5], _ =>
    match cs, hl with
    | [c0, c1, c2, c3, c4, c5, c6, c7, c8, c9], _ =>
      obtain ⟨name, e0, -, -⟩ := DataW.trod_string Tryz.underlying9 ((hf 0 _ rfl).trans (rfl : _ = some y0))
      obtain ⟨A, la, ca, coils, e1, h1, k1, m1⟩ := open_isTc (n := 8) (E := CoilD.cells) (fun _ => rfl) Tryz.underlying22 (by kernel_rfl) (by decide) dec_Coil ((hf 1 _ rfl).trans (rfl : _ = some y1))
      obtain ⟨B, lb, cb, shells, e2, h2, k2, m2⟩ := open_isTc (n := 4) (E := ShellD.cells) (fun _ => rfl) Tryz.underlying23 (by kernel_rfl) (by decide) dec_Shell ((hf 2 _ rfl).trans (rfl : _ = some y2))
      obtain ⟨C, lc, cc, limits, e3, h3, k3, m3⟩ := open_isTc (n := 2) (E := PointD.cells) (fun _ => rfl) Tryz.underlying24 (by kernel_rfl) (by decide) dec_Point ((hf 3 _ rfl).trans (rfl : _ = some y3))
      obtain ⟨D, ld, cd, sensors, e5, h5, k5, m5⟩ := open_isTc (n := 5) (E := SensorD.cells) (fun _ => rfl) Tryz.underlying27 (by kernel_rfl) (by decide) dec_Sensor ((hf 5 _ rfl).trans (rfl : _ = some y5))
      obtain ⟨gs, gn, -, -, gl, glen, gf⟩ := DataW.trod_struct Tryz.underlying26 ((hf 4 _ rfl).trans (rfl : _ = some y4))
      match gs, glen with
      | [z0, z1, z2, z3, z4], _ =>
        obtain ⟨a0, f0, -, -⟩ := DataW.trod_int Tryz.underlying3 ((gf 0 _ rfl).trans (rfl : _ = some z0))
        obtain ⟨a1, f1, -, -⟩ := DataW.trod_int Tryz.underlying3 ((gf 1 _ rfl).trans (rfl : _ = some z1))
        obtain ⟨a2, f2, -, -⟩ := DataW.trod_int Tryz.underlying3 ((gf 2 _ rfl).trans (rfl : _ = some z2))
        obtain ⟨a3, f3, -, -⟩ := DataW.trod_int Tryz.underlying3 ((gf 3 _ rfl).trans (rfl : _ = some z3))
        obtain ⟨a4, f4, -, -⟩ := DataW.trod_int Tryz.underlying3 ((gf 4 _ rfl).trans (rfl : _ = some z4))
        have cg : Tryz.prog.cellsOf 26 = 5 := by kernel_rfl
        have cs1 : Tryz.prog.cellsOf 22 = 1 := by kernel_rfl
        have cs2 : Tryz.prog.cellsOf 23 = 1 := by kernel_rfl
        have cs3 : Tryz.prog.cellsOf 24 = 1 := by kernel_rfl
        have cs5 : Tryz.prog.cellsOf 27 = 1 := by kernel_rfl
        simp [cells_int, cells_string, cg, cs1, cs2, cs3, cs5] at e0 e1 e2 e3 e5 f0 f1 f2 f3 f4
        subst e0 e1 e2 e3 e5 f0 f1 f2 f3 f4
        unfold maxLen at m1 m2 m3 m5
        exact ⟨⟨A, B, C, D, la, ca, lb, cb, lc, cc, ld, cd⟩, ⟨name, coils, shells, limits, ⟨a0, a1, a2, a3, a4⟩, sensors⟩, rfl, h1, h2, h3, h5, k1, k2, k3, k5, m1, m2, m3, m5⟩
theorem open_currentsC {W : World} {fuel : Nat} {cs : List Value} {y : DataW H × List MemPlace} (hf0 : DataW.trod enc Tryz.prog W 0 (fun _ => true) true fuel 32 cs = some y) : ∃ (Q : CurR) (C : CurD), cs = [.slice Q.A Q.la Q.ca, .slice Q.B Q.lb Q.cb, .slice Q.C Q.lc Q.cc] ∧ OpC W Q C := by
  obtain ⟨d, p⟩ := y
  have hf1 := hf0
  obtain ⟨xs, n, -, -, hl, hlen, hf⟩ := DataW.trod_struct Tryz.underlying32 hf1
  rw [show Tryz.prog.cellsOf 32 = 3 by kernel_rfl] at hl
  match xs, hlen with
  | [y0, y1, y2], _ =>
    match cs, hl with
    | [c0, c1, c2], _ =>
      obtain ⟨A, la, ca, z1, e0, h0, k0, m0⟩ := open_isTc (n := 1) (E := intCells) (fun _ => rfl) Tryz.underlying30 (by kernel_rfl) (by decide) dec_intI ((hf 0 _ rfl).trans (rfl : _ = some y0))
      obtain ⟨B, lb, cb, z2, e1, h1, k1, m1⟩ := open_isTc (n := 1) (E := intCells) (fun _ => rfl) Tryz.underlying30 (by kernel_rfl) (by decide) dec_intI ((hf 1 _ rfl).trans (rfl : _ = some y1))
      obtain ⟨C, lc, cc, z3, e2, h2, k2, m2⟩ := open_isTc (n := 1) (E := intCells) (fun _ => rfl) Tryz.underlying30 (by kernel_rfl) (by decide) dec_intI ((hf 2 _ rfl).trans (rfl : _ = some y2))
      have cs1 : Tryz.prog.cellsOf 30 = 1 := by kernel_rfl
      simp [cs1] at e0 e1 e2
      subst e0 e1 e2
      unfold maxLen at m0 m1 m2
      exact ⟨⟨A, B, C, la, ca, lb, cb, lc, cc⟩, ⟨z1, z2, z3⟩, rfl, h0, h1, h2, k0, k1, k2, m0, m1, m2⟩
theorem wf_i64f {a : Int} (hw : (Lit.int .i64 a).wf = true) : -9223372036854775808 ≤ a ∧ a ≤ 9223372036854775807 := by
  have h1 : (decide (IntKind.i64.min ≤ a) && decide (a ≤ IntKind.i64.max)) = true := hw
  rw [Bool.and_eq_true, decide_eq_true_eq, decide_eq_true_eq] at h1
  have e1 : IntKind.i64.min = -9223372036854775808 := by decide
  have e2 : IntKind.i64.max = 9223372036854775807 := by decide
  rw [e1, e2] at h1
  exact h1
theorem open_field {W : World} {b0 : Nat} {r : Reach} {v : Value} {d : DataW H} {p : List MemPlace}
    (hv : Value.okWide Tryz.prog W r b0 34 v) (h : DataW.Trod enc Tryz.prog W 0 (fun _ => true) true 34 v d p) :
    ∃ (R : MachR) (M : MachD) (Q : CurR) (C : CurD) (g : Int), v = .agg #[.string M.name, .slice R.A R.la R.ca, .slice R.B R.lb R.cb, .slice R.C R.lc R.cc, .int .i64 M.grid.r, .int .i64 M.grid.z, .int .i64 M.grid.nr, .int .i64 M.grid.nz, .int .i64 M.grid.step, .slice R.D R.ld R.cd, .slice Q.A Q.la Q.ca, .slice Q.B Q.lb Q.cb, .slice Q.C Q.lc Q.cc, .int .i64 g] ∧ OpM W R M ∧ OpC W Q C ∧ (-9223372036854775808 ≤ g ∧ g ≤ 9223372036854775807) := by
  obtain ⟨⟨cs⟩, rfl, hsz⟩ := okWide_struct Tryz.underlying34 hv
  obtain ⟨fuel, hf0⟩ := h
  have hf1 : DataW.trod enc Tryz.prog W 0 (fun _ => true) true fuel 34 cs = some (d, p) := hf0
  obtain ⟨xs, n, -, -, hl, hlen, hf⟩ := DataW.trod_struct Tryz.underlying34 hf1
  rw [show Tryz.prog.cellsOf 34 = 14 by kernel_rfl] at hl
  match xs, hlen with
  | [y0, y1, y2], _ =>
    match cs, hl with
    | [c0, c1, c2, c3, c4, c5, c6, c7, c8, c9, c10, c11, c12, c13], _ =>
      obtain ⟨R, M, e0, h0⟩ := open_machineC ((hf 0 _ rfl).trans (rfl : _ = some y0))
      obtain ⟨Q, C, e1, h1⟩ := open_currentsC ((hf 1 _ rfl).trans (rfl : _ = some y1))
      obtain ⟨g2, e2, -, w2⟩ := DataW.trod_int Tryz.underlying3 ((hf 2 _ rfl).trans (rfl : _ = some y2))
      have zm : Tryz.prog.cellsOf 29 = 10 := by kernel_rfl
      have zc : Tryz.prog.cellsOf 32 = 3 := by kernel_rfl
      simp [cells_int, zm, zc, machCells] at e0 e1 e2
      obtain ⟨rfl, rfl, rfl, rfl, rfl, rfl, rfl, rfl, rfl, rfl⟩ := e0
      obtain ⟨rfl, rfl, rfl⟩ := e1
      subst e2
      exact ⟨R, M, Q, C, g2, rfl, h0, h1, wf_i64f w2⟩
theorem shut_field {W W' : World} {v : Value} {d : DataW H} {p : List MemPlace} (h : DataW.Trod enc Tryz.prog W 0 (fun _ => true) true 34 v d p) (hb : Below W.heap.size W W') (hlt : ∀ x ∈ p, x.block < W.heap.size) :
    DataW.Trod enc Tryz.prog W' 0 (fun b => decide (b < W.heap.size)) true 34 v d p :=
  Below.trod (by kernel_rfl) (by kernel_rfl) (of_decide_eq_true (by kernel_rfl)) h hb hlt
theorem open_ints {W : World} {b0 : Nat} {r : Reach} {v : Value} {d : DataW H} {p : List MemPlace}
    (hv : Value.okWide Tryz.prog W r b0 30 v) (h : DataW.Trod enc Tryz.prog W 0 (fun _ => true) true 30 v d p) :
    ∃ (A : Option Addr) (len cap : Nat) (zs : List Int), v = .slice A len cap ∧ IsT 1 intCells W A len zs ∧ len ≤ maxLen ∧ len ≤ cap ∧ cap ≤ maxLen :=
  open_isT (n := 1) (E := intCells) (fun _ => rfl) Tryz.underlying30 (by kernel_rfl) (by decide) dec_intI hv h
theorem shut_ints {W W' : World} {v : Value} {d : DataW H} {p : List MemPlace} (h : DataW.Trod enc Tryz.prog W 0 (fun _ => true) true 30 v d p) (hb : Below W.heap.size W W') (hlt : ∀ x ∈ p, x.block < W.heap.size) :
    DataW.Trod enc Tryz.prog W' 0 (fun b => decide (b < W.heap.size)) true 30 v d p :=
  Below.trod (by kernel_rfl) (by kernel_rfl) (of_decide_eq_true (by kernel_rfl)) h hb hlt
end
end
end Go.Proofs.YtogcjgjhmlifgaaGreat
