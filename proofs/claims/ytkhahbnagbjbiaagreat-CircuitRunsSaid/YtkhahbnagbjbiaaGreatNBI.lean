import Derived.Test.YtkhahbnagbjbiaaGreatNAV
import Derived.Test.YtkhahbnagbjbiaaGreatNBD
import Derived.Test.YtkhahbnagbjbiaaGreatNBG
import Derived.Test.YtkhahbnagbjbiaaGreatNBH
import Derived.Test.YtkhahbnagbjbiaaGreatRows
import Derived.KernelRfl
import Derived.Laws.StructEq
section
/- The specification of layer 3: ValidState, Begin, Same, Rest, over this seat's translation (written by ax_ci11.py). -/
namespace Go.Proofs.YtkhahbnagbjbiaaGreat
set_option linter.unusedVariables false
set_option linter.unusedSimpArgs false
open Go.RowKit

theorem upTo {P : Nat → Prop} {x : Nat} (h : ∀ j, j < x → P j) (hx : P x) : ∀ j, j < x + 1 → P j := fun j hj => by
  rcases Nat.lt_or_ge j x with g | g
  · exact h j g
  · obtain rfl : j = x := by omega
    exact hx
theorem vsF {M : MachD} {S : StD} (h : ¬ FitS M S) : validS M S = false := by
  cases e : validS M S
  · rfl
  · exact absurd (fitS_iff.1 e) h

set_option maxRecDepth 100000 in
theorem rwithin3_any (n a b : Int) (w : World) : Calls Tryz.prog 38 #[(.int .i64 n), (.int .i64 a), (.int .i64 b)] w (Ret (.bool (wthn n a b)) w) := by
  refine calls_ax (vs := [(.int .i64 n), (.int .i64 a), (.int .i64 b)]) Tryz.func38 rfl rfl ?_
  refine ac_seq (ac_region ?_)
  refine al_p (q_assign rfl) ?_
  refine al_end (aq_then ?_)
  refine ac_seq (ac_region ?_)
  refine al_p (q_move rfl) ?_
  refine al_p (q_move rfl) ?_
  refine al_p (q_geq rfl rfl) ?_
  refine al_p (q_move rfl) ?_
  refine aq_split 10 rfl (fun hb1 => ?_) (fun hb1 => ?_)
  · refine al_p (q_move rfl) ?_
    refine al_p (q_move rfl) ?_
    refine al_p (q_leq rfl rfl) ?_
    refine al_p (q_pickT rfl rfl) ?_
    refine al_p (q_assign rfl) ?_
    refine al_end (aq_then ?_)
    refine ac_ret ?_
    refine ret1 Tryz.results38 rfl (fun w9 hs => ?_)
    exact ⟨by first | (simp_all [wthn]; done) | (simp_all [wthn]; omega), hs.below⟩
  · refine al_skip rfl rfl rfl ?_
    refine al_skip rfl rfl rfl ?_
    refine al_skip rfl rfl rfl ?_
    refine al_p (q_pickF rfl rfl) ?_
    refine al_p (q_assign rfl) ?_
    refine al_end (aq_then ?_)
    refine ac_ret ?_
    refine ret1 Tryz.results38 rfl (fun w9 hs => ?_)
    exact ⟨by first | (simp_all [wthn]; done) | (simp_all [wthn]; omega), hs.below⟩

set_option maxRecDepth 100000 in
theorem rvalidState_any (R : MachR) (M : MachD) (RS : StR) (S : StD) (w : World) (hM : IsM w R M) (hS : IsS w RS S) : Calls Tryz.prog 26 #[(.agg (machCells R M)), (RS.v S.tick)] w (Ret (.bool (validS M S)) w) := by
  have n1 := hM.coils.1
  have n2 := hS.heat.1
  have n3 := hS.trip.1
  have n4 := hS.kh
  refine calls_ax (vs := [(.agg (machCells R M)), (RS.v S.tick)]) Tryz.func26 rfl rfl ?_
  refine ac_seq (ac_region ?_)
  refine al_new (fun b => .pointer (some ⟨b, 0, none⟩)) (r_box rfl rfl) rfl rfl rfl ?_
  intro b1
  refine al_new (fun b => .pointer (some ⟨b, 0, none⟩)) (r_box rfl rfl) rfl rfl rfl ?_
  intro b2
  refine al_p (q_assign rfl) ?_
  refine al_end (aq_then ?_)
  refine ac_seq ?_
  refine ac_seq (ac_region ?_)
  refine al_p (q_loadAll (i := 1) rfl rfl Tryz.isAgg29 Tryz.sizeOf29 rfl) ?_
  refine al_p (q_fieldAddr 1 rfl Tryz.runUnderlying35 rfl Tryz.sizeOf32 (by decide) rfl) ?_
  refine al_p (q_loadSub (i := 0) rfl rfl Tryz.isAgg32 Tryz.sizeOf32 .k1 .k3) ?_
  refine al_call Tryz.call54 (.cons rfl (.cons rfl .nil)) rfl rfl (fun w1 hs1 => ?_)
  refine (rvalid2_any R M RS.Q S.C _ (hM.below hs1.below) (hS.cur.below hs1.below)).mono ?_
  rintro e u1 ⟨rfl, hb_1⟩
  refine ⟨_, rfl, hb_1, ?_⟩
  clear hs1
  refine al_p (q_not rfl) ?_
  refine al_p (q_move rfl) ?_
  refine aq_split 11 rfl (fun hb1 => ?_) (fun hb1 => ?_)
  · have v1 : ¬ FitS M S := fun h => by rw [fit2_iff.2 h.cur] at hb1; cases hb1
    refine al_skip rfl rfl rfl ?_
    refine al_skip rfl rfl rfl ?_
    refine al_skip rfl rfl rfl ?_
    refine al_skip rfl rfl rfl ?_
    refine al_p (q_pickT rfl rfl) ?_
    refine al_p (q_move rfl) ?_
    refine al_skip rfl rfl rfl ?_
    refine al_skip rfl rfl rfl ?_
    refine al_skip rfl rfl rfl ?_
    refine al_skip rfl rfl rfl ?_
    refine al_skip rfl rfl rfl ?_
    refine al_skip rfl rfl rfl ?_
    refine al_skip rfl rfl rfl ?_
    refine al_p (q_pickT rfl rfl) ?_
    refine al_p (q_move rfl) ?_
    refine al_skip rfl rfl rfl ?_
    refine al_skip rfl rfl rfl ?_
    refine al_skip rfl rfl rfl ?_
    refine al_skip rfl rfl rfl ?_
    refine al_skip rfl rfl rfl ?_
    refine al_skip rfl rfl rfl ?_
    refine al_skip rfl rfl rfl ?_
    refine al_p (q_pickT rfl rfl) ?_
    refine al_end (aq_then ?_)
    refine ac_condT rfl ?_
    refine ac_seq (ac_region ?_)
    refine al_p (q_assign rfl) ?_
    refine al_end (aq_then ?_)
    refine ac_ret ?_
    refine aq_thenR ?_
    refine ret1 Tryz.results26 rfl (fun w9 hs => ?_)
    rw [vsF v1]; exact ⟨rfl, hs.below⟩
  · have v1 := fit2_iff.1 (show validC M S.C = true by simpa using hb1)
    refine al_p (q_fieldAddr 0 rfl Tryz.runUnderlying35 rfl Tryz.sizeOf3 (by decide) rfl) ?_
    refine al_p (q_load (i := 0) rfl rfl rfl Tryz.isAgg3) ?_
    refine al_call Tryz.call38 (.cons rfl (.cons rfl (.cons rfl .nil))) rfl rfl (fun w2 hs2 => ?_)
    refine (rwithin3_any S.tick 0 1000000000 _).mono ?_
    rintro e u2 ⟨rfl, hb_2⟩
    refine ⟨_, rfl, hb_2, ?_⟩
    clear hs2
    refine al_p (q_not rfl) ?_
    refine al_p (q_pickF rfl rfl) ?_
    refine al_p (q_move rfl) ?_
    refine aq_split 17 rfl (fun hb2 => ?_) (fun hb2 => ?_)
    · have v2 : ¬ FitS M S := fun h => by rw [wthn_iff.2 h.tick] at hb2; cases hb2
      refine al_skip rfl rfl rfl ?_
      refine al_skip rfl rfl rfl ?_
      refine al_skip rfl rfl rfl ?_
      refine al_skip rfl rfl rfl ?_
      refine al_skip rfl rfl rfl ?_
      refine al_skip rfl rfl rfl ?_
      refine al_skip rfl rfl rfl ?_
      refine al_p (q_pickT rfl rfl) ?_
      refine al_p (q_move rfl) ?_
      refine al_skip rfl rfl rfl ?_
      refine al_skip rfl rfl rfl ?_
      refine al_skip rfl rfl rfl ?_
      refine al_skip rfl rfl rfl ?_
      refine al_skip rfl rfl rfl ?_
      refine al_skip rfl rfl rfl ?_
      refine al_skip rfl rfl rfl ?_
      refine al_p (q_pickT rfl rfl) ?_
      refine al_end (aq_then ?_)
      refine ac_condT rfl ?_
      refine ac_seq (ac_region ?_)
      refine al_p (q_assign rfl) ?_
      refine al_end (aq_then ?_)
      refine ac_ret ?_
      refine aq_thenR ?_
      refine ret1 Tryz.results26 rfl (fun w9 hs => ?_)
      rw [vsF v2]; exact ⟨rfl, hs.below⟩
    · have v2 := wthn_iff.1 (show wthn S.tick 0 1000000000 = true by simpa using hb2)
      refine al_p (q_fieldAddr 4 rfl Tryz.runUnderlying35 rfl Tryz.sizeOf30 (by decide) rfl) ?_
      refine al_p (q_load (i := 0) rfl rfl rfl Tryz.isAgg30) ?_
      refine al_p (q_lenS rfl Tryz.runUnderlying30) ?_
      refine al_p (q_fieldAddr 1 rfl Tryz.runUnderlying29 rfl Tryz.sizeOf22 (by decide) rfl) ?_
      refine al_p (q_load (i := 1) rfl rfl rfl Tryz.isAgg22) ?_
      refine al_p (q_lenS rfl Tryz.runUnderlying22) ?_
      refine al_p (q_neq rfl rfl) ?_
      refine al_p (q_pickF rfl rfl) ?_
      refine al_p (q_move rfl) ?_
      refine aq_split 26 rfl (fun hb3 => ?_) (fun hb3 => ?_)
      · have v3 : ¬ FitS M S := fun h => by have := h.heat.1; simp at hb3; omega
        refine al_skip rfl rfl rfl ?_
        refine al_skip rfl rfl rfl ?_
        refine al_skip rfl rfl rfl ?_
        refine al_skip rfl rfl rfl ?_
        refine al_skip rfl rfl rfl ?_
        refine al_skip rfl rfl rfl ?_
        refine al_skip rfl rfl rfl ?_
        refine al_p (q_pickT rfl rfl) ?_
        refine al_end (aq_then ?_)
        refine ac_condT rfl ?_
        refine ac_seq (ac_region ?_)
        refine al_p (q_assign rfl) ?_
        refine al_end (aq_then ?_)
        refine ac_ret ?_
        refine aq_thenR ?_
        refine ret1 Tryz.results26 rfl (fun w9 hs => ?_)
        rw [vsF v3]; exact ⟨rfl, hs.below⟩
      · have v3 : S.heat.length = M.coils.length := by simp at hb3; omega
        refine al_p (q_fieldAddr 5 rfl Tryz.runUnderlying35 rfl Tryz.sizeOf33 (by decide) rfl) ?_
        refine al_p (q_load (i := 0) rfl rfl rfl Tryz.isAgg33) ?_
        refine al_p (q_lenS rfl Tryz.runUnderlying33) ?_
        refine al_p (q_fieldAddr 1 rfl Tryz.runUnderlying29 rfl Tryz.sizeOf22 (by decide) rfl) ?_
        refine al_p (q_load (i := 1) rfl rfl rfl Tryz.isAgg22) ?_
        refine al_p (q_lenS rfl Tryz.runUnderlying22) ?_
        refine al_p (q_neq rfl rfl) ?_
        refine al_p (q_pickF rfl rfl) ?_
        refine al_end (aq_then ?_)
        refine ac_cond rfl (fun h1 => ?_) (fun h1 => ?_)
        · have v4 : ¬ FitS M S := fun h => by have := h.trip; simp at h1; omega
          refine ac_seq (ac_region ?_)
          refine al_p (q_assign rfl) ?_
          refine al_end (aq_then ?_)
          refine ac_ret ?_
          refine aq_thenR ?_
          refine ret1 Tryz.results26 rfl (fun w9 hs => ?_)
          rw [vsF v4]; exact ⟨rfl, hs.below⟩
        · have v4 : S.trip.length = M.coils.length := by simp at h1; omega
          refine ac_skip ?_
          refine aq_then ?_
          refine ac_seq ?_
          refine ac_seq (ac_region ?_)
          refine al_p (q_assign rfl) ?_
          refine al_end (aq_then ?_)
          refine ac_block ?_
          refine ac_loop (β := Nat) (fun x => x ≤ RS.lh ∧ ∀ j, j < x → 0 ≤ iA S.heat j ∧ iA S.heat j ≤ 1000000000000000) (fun x => [(3, (.pointer (some ⟨b2, 0, none⟩))), (4, (.bool false)), (5, (.int .i64 (x : Int)))]) (fun _ => _) (fun x => [(b2, _), (b1, _)]) (fun x => RS.lh - x) 0 ⟨by omega, fun j h => by omega⟩ ⟨rfl, rfl, rfl, trivial⟩ (fun w9 hs => hs) (fun x hF1 => ?_)
          refine ac_seq ?_
          refine ac_seq (ac_region ?_)
          refine al_p (q_move rfl) ?_
          refine al_p (q_fieldAddr 4 rfl Tryz.runUnderlying35 rfl Tryz.sizeOf30 (by decide) rfl) ?_
          refine al_p (q_load (i := 0) rfl rfl rfl Tryz.isAgg30) ?_
          refine al_p (q_lenS rfl Tryz.runUnderlying30) ?_
          refine al_p (q_lss rfl rfl) ?_
          refine al_end (aq_then ?_)
          refine ac_cond rfl (fun h2 => ?_) (fun h2 => ?_)
          · have hxl : x < RS.lh := by have := of_decide_eq_true h2; omega
            obtain ⟨b21, o21, hA2, hlt2, hget2⟩ := hS.heat.2 (by omega)
            have hx2 := iA_get (l := S.heat) (k := x) (by omega)
            refine ac_skip ?_
            refine aq_then ?_
            refine ac_seq ?_
            refine ac_block ?_
            refine ac_seq (ac_region ?_)
            refine al_p (q_fieldAddr 4 rfl Tryz.runUnderlying35 rfl Tryz.sizeOf30 (by decide) rfl) ?_
            refine al_p (q_load (i := 0) rfl rfl rfl Tryz.isAgg30) ?_
            refine al_p (q_move rfl) ?_
            refine al_p (q_indexAddrA (i := x) (o21 + x * 1 + 0) hA2 rfl rfl rfl (by omega) Tryz.runUnderlying30 Tryz.sizeOf3 rfl) ?_
            refine al_p (q_loadX rfl Tryz.isAgg3 (fun w9 hs => (hs.below.cell (p := ⟨_, _, none⟩) hlt2).trans ((hget2 x _ hx2) 0 _ rfl))) ?_
            refine al_call Tryz.call38 (.cons rfl (.cons rfl (.cons rfl .nil))) rfl rfl (fun w3 hs3 => ?_)
            refine (rwithin3_any (iA S.heat x) 0 1000000000000000 _).mono ?_
            rintro e u3 ⟨rfl, hb_3⟩
            refine ⟨_, rfl, hb_3, ?_⟩
            clear hs3
            refine al_p (q_not rfl) ?_
            refine al_end (aq_then ?_)
            refine ac_cond rfl (fun h3 => ?_) (fun h3 => ?_)
            · have v5 : ¬ FitS M S := fun h => by rw [wthn_iff.2 (h.heat.2 _ (List.mem_of_getElem? hx2))] at h3; cases h3
              refine ac_seq (ac_region ?_)
              refine al_p (q_assign rfl) ?_
              refine al_end (aq_then ?_)
              refine ac_ret ?_
              refine aq_inR ?_
              refine aq_thenR ?_
              refine aq_thenR ?_
              refine aq_inR ?_
              refine aq_thenR ?_
              refine ret1 Tryz.results26 rfl (fun w9 hs => ?_)
              rw [vsF v5]; exact ⟨rfl, hs.below⟩
            · have v5 := wthn_iff.1 (show wthn (iA S.heat x) 0 1000000000000000 = true by simpa using h3)
              refine ac_skip ?_
              refine aq_inN ?_
              refine aq_then ?_
              refine ac_region ?_
              refine al_p (q_move rfl) ?_
              refine al_p (q_add rfl rfl (by omega)) ?_
              refine al_p (q_assign rfl) ?_
              refine al_end (aq_then ?_)
              skip
              refine aq_round (x + 1) (by omega) ⟨by omega, upTo hF1.2 v5⟩ ⟨rfl, rfl, rfl, trivial⟩ (fun w9 hs => (hs.fewer 1 rfl))
          · have hxe : x = RS.lh := by have := of_decide_eq_false h2; omega
            refine ac_exit ?_
            refine aq_thenE ?_
            refine aq_thenE ?_
            refine aq_hit ?_
            refine aq_then ?_
            refine ac_seq (ac_region ?_)
            refine al_p (q_assign rfl) ?_
            refine al_end (aq_then ?_)
            refine ac_ret ?_
            refine ret1 Tryz.results26 rfl (fun w9 hs => ?_)
            rw [fitS_iff.2 ⟨v1, v2, ⟨v3, fun y hy => ?_⟩, v4⟩]
            · exact ⟨rfl, hs.below⟩
            · obtain ⟨j, hj, rfl⟩ := List.mem_iff_getElem.1 hy
              have := hF1.2 j (by omega)
              rwa [iA_of (List.getElem?_eq_getElem hj)] at this

end Go.Proofs.YtkhahbnagbjbiaaGreat
end
