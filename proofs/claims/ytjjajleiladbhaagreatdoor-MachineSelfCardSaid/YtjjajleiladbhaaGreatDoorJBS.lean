import Derived.Test.YtjjajleiladbhaaGreatDoorJAQ
import Derived.Test.YtjjajleiladbhaaGreatDoorJAV
import Derived.Test.YtjjajleiladbhaaGreatDoorJBD
import Derived.Test.YtjjajleiladbhaaGreatDoorJBF
import Derived.Test.YtjjajleiladbhaaGreatDoorRows
import Derived.KernelRfl
import Derived.Laws.StructEq
section
/- MachineSelf: the law's walk, over this seat's translation (written by ax_lw3.py). -/
namespace Go.Proofs.YtjjajleiladbhaaGreatDoor
set_option linter.unusedVariables false
set_option linter.unusedSimpArgs false
open Go.RowKit

theorem SetAt.ofSet {α : Type} : ∀ {n : Nat} {x : α} {l : List α}, n < l.length → SetAt n x l (l.set n x)
  | 0, x, y :: l, _ => .z
  | n + 1, x, y :: l, h => .s (SetAt.ofSet (by simpa using h))
theorem flat_map : ∀ l : List Int, l.flatMap intCells = l.map (Value.int .i64)
  | [] => rfl
  | x :: l => by rw [List.flatMap_cons, flat_map l]; rfl
theorem flat_set (n i : Nat) (x : Int) : ((List.replicate n (0 : Int)).set i x).flatMap intCells = (List.replicate n (Value.int .i64 0)).set i (.int .i64 x) := by
  rw [flat_map, List.map_set, List.map_replicate]
theorem self_force (R : MachR) (M : MachD) (Q : CurR) (n : Nat) (i x : Int) (w : World) (hM : IsM w R M) (hC : IsC w Q (oneC M n x)) (hi : i = n) (hn : n < M.coils.length) (hx : -1000000 ≤ x ∧ x ≤ 1000000) (hc : checkC M = 0) (i1 : i ≤ 9223372036854775807) :
    Calls Tryz.prog 48 #[.agg (machCells R M), Q.v, .int .i64 i] w (Ret (.tuple #[.int .i64 0, .int .i64 0, .int .i64 0]) w) := by
  subst hi
  have h := mforce_any R M Q (oneC M n x) n w hM hC (by omega) i1
  rw [force_one M n x hn hx hc] at h
  exact h

theorem lwg_bl_apiCurrents_ : ∀ w, (Instr.build 34 #[]).run Tryz.prog w = .ok (.agg #[(.slice none 0 0), (.slice none 0 0), (.slice none 0 0)]) w := by
  intro w; simp [Instr.build, Instr.fill, cells_agg, Tryz.runUnderlying34, Tryz.zeroValue34, Tryz.sizeOf32]

set_option maxRecDepth 100000 in
theorem self_walk (R : MachR) (M : MachD) (i cur : Int) (W : World) (hE : Env W) (hM : R.la ≤ 1000000000000000 → R.lb ≤ 1000000000000000 → R.lc ≤ 1000000000000000 → R.ld ≤ 1000000000000000 → IsM W R M) (hi : -9223372036854775808 ≤ i ∧ i ≤ 9223372036854775807) : Calls Tryz.prog 13 #[(.agg (machCells R M)), (.int .i64 i), (.int .i64 cur)] W (Ret (.bool true) W) := by
  refine calls_ax (vs := [(.agg (machCells R M)), (.int .i64 i), (.int .i64 cur)]) Tryz.func13 rfl rfl ?_
  refine ac_seq ?_
  refine ac_region ?_
  refine al_new (fun b => .pointer (some ⟨b, 0, none⟩)) (r_box rfl rfl) rfl rfl rfl ?_
  intro b1
  refine al_q (q_assign rfl) rfl rfl rfl ?_
  refine al_end ?_
  refine aq_then ?_
  refine ac_seq ?_
  refine ac_seq ?_
  refine ac_region ?_
  refine al_q (q_loadAll (i := 0) rfl rfl Tryz.isAgg29 Tryz.sizeOf29 rfl) rfl rfl rfl ?_
  refine al_q (q_build .nil (lwg_bl_apiCurrents_)) rfl rfl rfl ?_
  refine al_call Tryz.call16 (.cons rfl (.cons rfl .nil)) rfl rfl (fun w1 hs1 => ?_)
  refine (brief2_any R M ⟨none, none, none, 0, 0, 0, 0, 0, 0⟩ _).mono ?_
  rintro e u1 ⟨rfl, hb_1⟩
  refine ⟨_, rfl, hb_1, ?_⟩
  clear hs1
  refine al_q (q_not rfl) rfl rfl rfl ?_
  refine al_q (q_move rfl) rfl rfl rfl ?_
  refine aq_split 15 rfl (fun hb1 => ?_) (fun hb1 => ?_)
  · skip
    refine al_skip rfl rfl rfl ?_
    refine al_skip rfl rfl rfl ?_
    refine al_skip rfl rfl rfl ?_
    refine al_q (q_pickT rfl rfl) rfl rfl rfl ?_
    refine al_q (q_move rfl) rfl rfl rfl ?_
    refine al_skip rfl rfl rfl ?_
    refine al_skip rfl rfl rfl ?_
    refine al_q (q_pickT rfl rfl) rfl rfl rfl ?_
    refine al_q (q_move rfl) rfl rfl rfl ?_
    refine al_skip rfl rfl rfl ?_
    refine al_skip rfl rfl rfl ?_
    refine al_skip rfl rfl rfl ?_
    refine al_skip rfl rfl rfl ?_
    refine al_skip rfl rfl rfl ?_
    refine al_q (q_pickT rfl rfl) rfl rfl rfl ?_
    refine al_q (q_move rfl) rfl rfl rfl ?_
    refine al_skip rfl rfl rfl ?_
    refine al_skip rfl rfl rfl ?_
    refine al_q (q_pickT rfl rfl) rfl rfl rfl ?_
    refine al_q (q_move rfl) rfl rfl rfl ?_
    refine al_skip rfl rfl rfl ?_
    refine al_skip rfl rfl rfl ?_
    refine al_q (q_pickT rfl rfl) rfl rfl rfl ?_
    refine al_end ?_
    refine aq_then ?_
    refine ac_condT rfl ?_
    refine ac_seq ?_
    refine ac_region ?_
    refine al_call Tryz.call19 .nil rfl rfl (fun w2 hs2 => ?_)
    refine (awake2_any _ (hE.below hs2.below)).mono ?_
    rintro e u2 ⟨rfl, hb_2⟩
    refine ⟨_, rfl, hb_2, ?_⟩
    clear hs2
    refine al_q (q_assign rfl) rfl rfl rfl ?_
    refine al_end ?_
    refine aq_then ?_
    refine ac_ret ?_
    refine aq_thenR ?_
    refine ret1 Tryz.results13 rfl (fun w9 hs => ?_)
    exact ⟨rfl, hs.below⟩
  · have hbf := brief2_iff.1 (show brief2 R ⟨none, none, none, 0, 0, 0, 0, 0, 0⟩ = true by simpa using hb1)
    have hM := hM (by omega) (by omega) (by omega) (by omega)
    refine al_q (q_loadAll (i := 0) rfl rfl Tryz.isAgg29 Tryz.sizeOf29 rfl) rfl rfl rfl ?_
    refine al_call Tryz.call18 (.cons rfl .nil) rfl rfl (fun w3 hs3 => ?_)
    refine (rcheck_any R M _ (hM.below hs3.below)).mono ?_
    rintro e u3 ⟨rfl, hb_3⟩
    refine ⟨_, rfl, hb_3, ?_⟩
    clear hs3
    refine al_q (q_neq rfl rfl) rfl rfl rfl ?_
    refine al_q (q_pickF rfl rfl) rfl rfl rfl ?_
    refine al_q (q_move rfl) rfl rfl rfl ?_
    refine aq_split 20 rfl (fun hb2 => ?_) (fun hb2 => ?_)
    · skip
      refine al_skip rfl rfl rfl ?_
      refine al_skip rfl rfl rfl ?_
      refine al_q (q_pickT rfl rfl) rfl rfl rfl ?_
      refine al_q (q_move rfl) rfl rfl rfl ?_
      refine al_skip rfl rfl rfl ?_
      refine al_skip rfl rfl rfl ?_
      refine al_skip rfl rfl rfl ?_
      refine al_skip rfl rfl rfl ?_
      refine al_skip rfl rfl rfl ?_
      refine al_q (q_pickT rfl rfl) rfl rfl rfl ?_
      refine al_q (q_move rfl) rfl rfl rfl ?_
      refine al_skip rfl rfl rfl ?_
      refine al_skip rfl rfl rfl ?_
      refine al_q (q_pickT rfl rfl) rfl rfl rfl ?_
      refine al_q (q_move rfl) rfl rfl rfl ?_
      refine al_skip rfl rfl rfl ?_
      refine al_skip rfl rfl rfl ?_
      refine al_q (q_pickT rfl rfl) rfl rfl rfl ?_
      refine al_end ?_
      refine aq_then ?_
      refine ac_condT rfl ?_
      refine ac_seq ?_
      refine ac_region ?_
      refine al_call Tryz.call19 .nil rfl rfl (fun w4 hs4 => ?_)
      refine (awake2_any _ (hE.below hs4.below)).mono ?_
      rintro e u4 ⟨rfl, hb_4⟩
      refine ⟨_, rfl, hb_4, ?_⟩
      clear hs4
      refine al_q (q_assign rfl) rfl rfl rfl ?_
      refine al_end ?_
      refine aq_then ?_
      refine ac_ret ?_
      refine aq_thenR ?_
      refine ret1 Tryz.results13 rfl (fun w9 hs => ?_)
      exact ⟨rfl, hs.below⟩
    · have hc : checkC M = 0 := by simpa using hb2
      have hs0 := sound_of hc
      have hg := cells_fine hs0.grid
      have hla := hM.coils.1
      have hlb := hM.shells.1
      refine al_q (q_move rfl) rfl rfl rfl ?_
      refine al_q (q_lss rfl rfl) rfl rfl rfl ?_
      refine al_q (q_pickF rfl rfl) rfl rfl rfl ?_
      refine al_q (q_move rfl) rfl rfl rfl ?_
      refine aq_split 24 rfl (fun hb3 => ?_) (fun hb3 => ?_)
      · skip
        refine al_skip rfl rfl rfl ?_
        refine al_skip rfl rfl rfl ?_
        refine al_skip rfl rfl rfl ?_
        refine al_skip rfl rfl rfl ?_
        refine al_skip rfl rfl rfl ?_
        refine al_q (q_pickT rfl rfl) rfl rfl rfl ?_
        refine al_q (q_move rfl) rfl rfl rfl ?_
        refine al_skip rfl rfl rfl ?_
        refine al_skip rfl rfl rfl ?_
        refine al_q (q_pickT rfl rfl) rfl rfl rfl ?_
        refine al_q (q_move rfl) rfl rfl rfl ?_
        refine al_skip rfl rfl rfl ?_
        refine al_skip rfl rfl rfl ?_
        refine al_q (q_pickT rfl rfl) rfl rfl rfl ?_
        refine al_end ?_
        refine aq_then ?_
        refine ac_condT rfl ?_
        refine ac_seq ?_
        refine ac_region ?_
        refine al_call Tryz.call19 .nil rfl rfl (fun w5 hs5 => ?_)
        refine (awake2_any _ (hE.below hs5.below)).mono ?_
        rintro e u5 ⟨rfl, hb_5⟩
        refine ⟨_, rfl, hb_5, ?_⟩
        clear hs5
        refine al_q (q_assign rfl) rfl rfl rfl ?_
        refine al_end ?_
        refine aq_then ?_
        refine ac_ret ?_
        refine aq_thenR ?_
        refine ret1 Tryz.results13 rfl (fun w9 hs => ?_)
        exact ⟨rfl, hs.below⟩
      · have hi0 := of_decide_eq_false hb3
        refine al_q (q_move rfl) rfl rfl rfl ?_
        refine al_q (q_fieldAddr 1 rfl Tryz.runUnderlying29 rfl Tryz.sizeOf22 (by decide) rfl) rfl rfl rfl ?_
        refine al_q (q_load (i := 0) rfl rfl rfl Tryz.isAgg22) rfl rfl rfl ?_
        refine al_q (q_lenS rfl Tryz.runUnderlying22) rfl rfl rfl ?_
        refine al_q (q_geq rfl rfl) rfl rfl rfl ?_
        refine al_q (q_pickF rfl rfl) rfl rfl rfl ?_
        refine al_q (q_move rfl) rfl rfl rfl ?_
        refine aq_split 31 rfl (fun hb4 => ?_) (fun hb4 => ?_)
        · skip
          refine al_skip rfl rfl rfl ?_
          refine al_skip rfl rfl rfl ?_
          refine al_q (q_pickT rfl rfl) rfl rfl rfl ?_
          refine al_q (q_move rfl) rfl rfl rfl ?_
          refine al_skip rfl rfl rfl ?_
          refine al_skip rfl rfl rfl ?_
          refine al_q (q_pickT rfl rfl) rfl rfl rfl ?_
          refine al_end ?_
          refine aq_then ?_
          refine ac_condT rfl ?_
          refine ac_seq ?_
          refine ac_region ?_
          refine al_call Tryz.call19 .nil rfl rfl (fun w6 hs6 => ?_)
          refine (awake2_any _ (hE.below hs6.below)).mono ?_
          rintro e u6 ⟨rfl, hb_6⟩
          refine ⟨_, rfl, hb_6, ?_⟩
          clear hs6
          refine al_q (q_assign rfl) rfl rfl rfl ?_
          refine al_end ?_
          refine aq_then ?_
          refine ac_ret ?_
          refine aq_thenR ?_
          refine ret1 Tryz.results13 rfl (fun w9 hs => ?_)
          exact ⟨rfl, hs.below⟩
        · have hi1 := of_decide_eq_false hb4
          refine al_q (q_move rfl) rfl rfl rfl ?_
          refine al_q (q_lss rfl rfl) rfl rfl rfl ?_
          refine al_q (q_pickF rfl rfl) rfl rfl rfl ?_
          refine al_q (q_move rfl) rfl rfl rfl ?_
          refine aq_split 35 rfl (fun hb5 => ?_) (fun hb5 => ?_)
          · skip
            refine al_skip rfl rfl rfl ?_
            refine al_skip rfl rfl rfl ?_
            refine al_q (q_pickT rfl rfl) rfl rfl rfl ?_
            refine al_end ?_
            refine aq_then ?_
            refine ac_condT rfl ?_
            refine ac_seq ?_
            refine ac_region ?_
            refine al_call Tryz.call19 .nil rfl rfl (fun w7 hs7 => ?_)
            refine (awake2_any _ (hE.below hs7.below)).mono ?_
            rintro e u7 ⟨rfl, hb_7⟩
            refine ⟨_, rfl, hb_7, ?_⟩
            clear hs7
            refine al_q (q_assign rfl) rfl rfl rfl ?_
            refine al_end ?_
            refine aq_then ?_
            refine ac_ret ?_
            refine aq_thenR ?_
            refine ret1 Tryz.results13 rfl (fun w9 hs => ?_)
            exact ⟨rfl, hs.below⟩
          · have hi2 := of_decide_eq_false hb5
            refine al_q (q_move rfl) rfl rfl rfl ?_
            refine al_q (q_gtr rfl rfl) rfl rfl rfl ?_
            refine al_q (q_pickF rfl rfl) rfl rfl rfl ?_
            refine al_end ?_
            refine aq_then ?_
            refine ac_cond rfl (fun h1 => ?_) (fun h1 => ?_)
            · skip
              refine ac_seq ?_
              refine ac_region ?_
              refine al_call Tryz.call19 .nil rfl rfl (fun w8 hs8 => ?_)
              refine (awake2_any _ (hE.below hs8.below)).mono ?_
              rintro e u8 ⟨rfl, hb_8⟩
              refine ⟨_, rfl, hb_8, ?_⟩
              clear hs8
              refine al_q (q_assign rfl) rfl rfl rfl ?_
              refine al_end ?_
              refine aq_then ?_
              refine ac_ret ?_
              refine aq_thenR ?_
              refine ret1 Tryz.results13 rfl (fun w9 hs => ?_)
              exact ⟨rfl, hs.below⟩
            · have hi3 := of_decide_eq_false h1
              refine ac_skip ?_
              refine aq_then ?_
              refine ac_seq ?_
              refine ac_region ?_
              refine al_q (q_loadAll (i := 0) rfl rfl Tryz.isAgg29 Tryz.sizeOf29 rfl) rfl rfl rfl ?_
              refine al_callS Tryz.call37 (.cons rfl .nil) rfl rfl (fun w9 hs9 => ?_)
              refine (rQuiet_ok R M _ (hM.below hs9.below) hc).mono ?_
              rintro e u9 ⟨x1, x2, x3, rfl, hb_9⟩
              refine ⟨_, _, _, rfl, hs9.gift hb_9, ?_⟩
              refine al_new (fun b => .pointer (some ⟨b, 0, none⟩)) (r_alloc Tryz.zeroValue34 rfl) rfl rfl rfl ?_
              intro b2
              refine al_storeAll (i := 0) rfl rfl rfl rfl Tryz.sizeOf34 rfl rfl .k0 rfl ?_
              refine al_end ?_
              refine aq_then ?_
              refine ac_seq ?_
              refine ac_region ?_
              refine al_q (q_fieldAddr 0 rfl Tryz.runUnderlying34 rfl Tryz.sizeOf32 (by decide) rfl) rfl rfl rfl ?_
              refine al_q (q_load (i := 0) rfl rfl rfl Tryz.isAgg32) rfl rfl rfl ?_
              refine al_q (q_move rfl) rfl rfl rfl ?_
              refine al_q (q_move rfl) rfl rfl rfl ?_
              refine al_q (q_indexAddr (i := i.toNat) (i.toNat) rfl rfl (by omega) (by omega) Tryz.runUnderlying32 Tryz.sizeOf3 (by omega)) rfl rfl rfl ?_
              refine al_store1 (i := 1) rfl rfl rfl rfl Tryz.sizeOf3 (SetAt.ofSet (by simp; omega)) .k1 rfl ?_
              refine al_end ?_
              refine aq_then ?_
              refine aq_keepL [1, 3, 6, 7] (.cons rfl (.cons rfl (.cons rfl (.cons rfl .nil)))) ?_
              refine ac_seq ?_
              refine ac_region ?_
              refine al_q (q_loadAll (i := 4) rfl rfl Tryz.isAgg29 Tryz.sizeOf29 rfl) rfl rfl rfl ?_
              refine al_q (q_loadAll (i := 0) rfl rfl Tryz.isAgg34 Tryz.sizeOf34 rfl) rfl rfl rfl ?_
              refine al_q (q_move rfl) rfl rfl rfl ?_
              refine al_call Tryz.call48 (.cons rfl (.cons rfl (.cons rfl .nil))) rfl rfl (fun w10 hs10 => ?_)
              have hx : IsC w10 ⟨some ⟨x1, 0, none⟩, some ⟨x2, 0, none⟩, some ⟨x3, 0, none⟩, R.la, R.la, R.lb, R.lb, (M.grid.nr * M.grid.nz).toNat, (M.grid.nr * M.grid.nz).toNat⟩ (oneC M i.toNat cur) := ⟨isT_box0 (n := 1) (enc := intCells) (fun _ => rfl) (hs10.at 1 rfl) (by unfold oneC; rw [hla]; exact flat_set _ _ _) (by simp [oneC, hla]), isT_box0 (n := 1) (enc := intCells) (fun _ => rfl) (hs10.at 2 rfl) (by rw [← hlb]; exact flat_ints _) (by simp [oneC, hlb]), isT_box0 (n := 1) (enc := intCells) (fun _ => rfl) (hs10.at 3 rfl) (flat_ints _) (by simp [oneC]), Nat.le_refl _, Nat.le_refl _, Nat.le_refl _, by simp only; omega, by simp only; omega, by simp only; omega, by simp only; omega, by simp only; omega, by simp only; omega⟩
              refine (self_force R M _ i.toNat i cur _ (hM.below hs10.below) hx (by omega) (by omega) ⟨by omega, by omega⟩ hc hi.2).mono ?_
              rintro e u10 ⟨rfl, hb_10⟩
              refine ⟨_, rfl, hb_10, ?_⟩
              clear hs10
              refine al_q (q_move rfl) rfl rfl rfl ?_
              refine al_q (q_extract rfl rfl) rfl rfl rfl ?_
              refine al_q (q_extract rfl rfl) rfl rfl rfl ?_
              refine al_q (q_extract rfl rfl) rfl rfl rfl ?_
              refine al_q (q_assign rfl) rfl rfl rfl ?_
              refine al_q (q_assign rfl) rfl rfl rfl ?_
              refine al_q (q_assign rfl) rfl rfl rfl ?_
              refine al_end ?_
              refine aq_then ?_
              refine ac_seq ?_
              refine ac_region ?_
              refine al_q (q_move rfl) rfl rfl rfl ?_
              refine al_q (q_same (v' := .bool true) (q_eql rfl rfl) (by simp)) rfl rfl rfl ?_
              refine al_q (q_move rfl) rfl rfl rfl ?_
              refine al_q (q_move rfl) rfl rfl rfl ?_
              refine al_q (q_same (v' := .bool true) (q_eql rfl rfl) (by simp)) rfl rfl rfl ?_
              refine al_q (q_pickT rfl rfl) rfl rfl rfl ?_
              refine al_q (q_move rfl) rfl rfl rfl ?_
              refine al_q (q_move rfl) rfl rfl rfl ?_
              refine al_q (q_same (v' := .bool true) (q_eql rfl rfl) (by simp)) rfl rfl rfl ?_
              refine al_q (q_pickT rfl rfl) rfl rfl rfl ?_
              refine al_q (q_move rfl) rfl rfl rfl ?_
              refine al_call Tryz.call19 .nil rfl rfl (fun w11 hs11 => ?_)
              refine (awake2_any _ (hE.below hs11.below)).mono ?_
              rintro e u11 ⟨rfl, hb_11⟩
              refine ⟨_, rfl, hb_11, ?_⟩
              clear hs11
              refine al_q (q_pickT rfl rfl) rfl rfl rfl ?_
              refine al_q (q_assign rfl) rfl rfl rfl ?_
              refine al_end ?_
              refine aq_then ?_
              refine ac_ret ?_
              refine ret1 Tryz.results13 rfl (fun w9 hs => ?_)
              exact ⟨rfl, hs.below⟩

end Go.Proofs.YtjjajleiladbhaaGreatDoor
end
