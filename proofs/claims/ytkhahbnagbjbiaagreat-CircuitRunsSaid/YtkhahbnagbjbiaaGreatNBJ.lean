import Derived.Test.YtkhahbnagbjbiaaGreatNAN
import Derived.Test.YtkhahbnagbjbiaaGreatNBI
import Derived.Test.YtkhahbnagbjbiaaGreatRows
import Derived.KernelRfl
import Derived.Laws.StructEq
section
/- The specification of layer 3: Begin, Same, Rest, over this seat's translation (written by ax_ci12.py). -/
namespace Go.Proofs.YtkhahbnagbjbiaaGreat
set_option linter.unusedVariables false
set_option linter.unusedSimpArgs false
open Go.RowKit

def sameS (S T : StD) : Prop := S.tick = T.tick ∧ (S.C.coils = T.C.coils ∧ S.C.shells = T.C.shells ∧ S.C.plasma = T.C.plasma) ∧ S.heat = T.heat ∧ S.trip = T.trip
instance (S T : StD) : Decidable (sameS S T) := inferInstanceAs (Decidable (_ ∧ (_ ∧ _ ∧ _) ∧ _ ∧ _))
theorem same_refl (S : StD) : decide (sameS S S) = true := decide_eq_true ⟨rfl, ⟨rfl, rfl, rfl⟩, rfl, rfl⟩
theorem listB_ext {l m : List Bool} (hl : l.length = m.length) (h : ∀ j, j < l.length → bA l j = bA m j) : l = m := by
  rw [listB_lst l, listB_lst m, hl]
  exact lst_ext fun k hk => h k (by omega)
theorem sameC_eq {S T : StD} (h : (decide (S.C.coils = T.C.coils) && (decide (S.C.shells = T.C.shells) && decide (S.C.plasma = T.C.plasma))) = true) : S.C.coils = T.C.coils ∧ S.C.shells = T.C.shells ∧ S.C.plasma = T.C.plasma := by
  simpa only [Bool.and_eq_true, decide_eq_true_eq] using h

set_option maxRecDepth 100000 in
theorem rsameS_any (P Q : StR) (S T : StD) (w : World) (a1 : IsS w P S) (a2 : IsS w Q T) : Calls Tryz.prog 11 #[(P.v S.tick), (Q.v T.tick)] w (Ret (.bool (decide (sameS S T))) w) := by
  have n1 := a1.trip.1
  have n2 := a2.trip.1
  have n3 := a1.kt
  have n4 := a2.kt
  refine calls_ax (vs := [(P.v S.tick), (Q.v T.tick)]) Tryz.func11 rfl rfl ?_
  refine ac_seq (ac_region ?_)
  refine al_new (fun b => .pointer (some ⟨b, 0, none⟩)) (r_box rfl rfl) rfl rfl rfl ?_
  intro b1
  refine al_new (fun b => .pointer (some ⟨b, 0, none⟩)) (r_box rfl rfl) rfl rfl rfl ?_
  intro b2
  refine al_p (q_assign rfl) ?_
  refine al_end (aq_then ?_)
  refine ac_seq ?_
  refine ac_seq (ac_region ?_)
  refine al_p (q_fieldAddr 0 rfl Tryz.runUnderlying35 rfl Tryz.sizeOf3 (by decide) rfl) ?_
  refine al_p (q_load (i := 1) rfl rfl rfl Tryz.isAgg3) ?_
  refine al_p (q_fieldAddr 0 rfl Tryz.runUnderlying35 rfl Tryz.sizeOf3 (by decide) rfl) ?_
  refine al_p (q_load (i := 0) rfl rfl rfl Tryz.isAgg3) ?_
  refine al_p (q_neq rfl rfl) ?_
  refine al_p (q_move rfl) ?_
  refine aq_split 11 rfl (fun hb1 => ?_) (fun hb1 => ?_)
  · have v1 : ¬ sameS S T := fun h => by have := h.1; simp at hb1; omega
    refine al_skip rfl rfl rfl ?_
    refine al_skip rfl rfl rfl ?_
    refine al_skip rfl rfl rfl ?_
    refine al_skip rfl rfl rfl ?_
    refine al_skip rfl rfl rfl ?_
    refine al_skip rfl rfl rfl ?_
    refine al_p (q_pickT rfl rfl) ?_
    refine al_p (q_move rfl) ?_
    refine al_skip rfl rfl rfl ?_
    refine al_skip rfl rfl rfl ?_
    refine al_skip rfl rfl rfl ?_
    refine al_skip rfl rfl rfl ?_
    refine al_skip rfl rfl rfl ?_
    refine al_skip rfl rfl rfl ?_
    refine al_p (q_pickT rfl rfl) ?_
    refine al_p (q_move rfl) ?_
    refine al_skip rfl rfl rfl ?_
    refine al_skip rfl rfl rfl ?_
    refine al_skip rfl rfl rfl ?_
    refine al_skip rfl rfl rfl ?_
    refine al_skip rfl rfl rfl ?_
    refine al_skip rfl rfl rfl ?_
    refine al_skip rfl rfl rfl ?_
    refine al_p (q_pickT rfl rfl) ?_
    refine al_end (aq_then ?_)
    refine ac_condT rfl ?_
    refine ac_seq (ac_region ?_)
    refine al_p (q_assign rfl) ?_
    refine al_end (aq_then ?_)
    refine ac_ret ?_
    refine aq_thenR ?_
    refine ret1 Tryz.results11 rfl (fun w9 hs => ?_)
    rw [decide_eq_false v1]; exact ⟨rfl, hs.below⟩
  · have v1 : S.tick = T.tick := by simpa using hb1
    refine al_p (q_fieldAddr 1 rfl Tryz.runUnderlying35 rfl Tryz.sizeOf32 (by decide) rfl) ?_
    refine al_p (q_loadSub (i := 1) rfl rfl Tryz.isAgg32 Tryz.sizeOf32 .k1 .k3) ?_
    refine al_p (q_fieldAddr 1 rfl Tryz.runUnderlying35 rfl Tryz.sizeOf32 (by decide) rfl) ?_
    refine al_p (q_loadSub (i := 0) rfl rfl Tryz.isAgg32 Tryz.sizeOf32 .k1 .k3) ?_
    refine al_call Tryz.call29 (.cons rfl (.cons rfl .nil)) rfl rfl (fun w1 hs1 => ?_)
    refine (rsameC_any P.Q Q.Q S.C T.C _ (a1.cur.below hs1.below) (a2.cur.below hs1.below)).mono ?_
    rintro e u1 ⟨rfl, hb_1⟩
    refine ⟨_, rfl, hb_1, ?_⟩
    clear hs1
    refine al_p (q_not rfl) ?_
    refine al_p (q_pickF rfl rfl) ?_
    refine al_p (q_move rfl) ?_
    refine aq_split 19 rfl (fun hb2 => ?_) (fun hb2 => ?_)
    · have v2 : ¬ sameS S T := fun h => by have := h.2.1; simp [this] at hb2
      refine al_skip rfl rfl rfl ?_
      refine al_skip rfl rfl rfl ?_
      refine al_skip rfl rfl rfl ?_
      refine al_skip rfl rfl rfl ?_
      refine al_skip rfl rfl rfl ?_
      refine al_skip rfl rfl rfl ?_
      refine al_p (q_pickT rfl rfl) ?_
      refine al_p (q_move rfl) ?_
      refine al_skip rfl rfl rfl ?_
      refine al_skip rfl rfl rfl ?_
      refine al_skip rfl rfl rfl ?_
      refine al_skip rfl rfl rfl ?_
      refine al_skip rfl rfl rfl ?_
      refine al_skip rfl rfl rfl ?_
      refine al_skip rfl rfl rfl ?_
      refine al_p (q_pickT rfl rfl) ?_
      refine al_end (aq_then ?_)
      refine ac_condT rfl ?_
      refine ac_seq (ac_region ?_)
      refine al_p (q_assign rfl) ?_
      refine al_end (aq_then ?_)
      refine ac_ret ?_
      refine aq_thenR ?_
      refine ret1 Tryz.results11 rfl (fun w9 hs => ?_)
      rw [decide_eq_false v2]; exact ⟨rfl, hs.below⟩
    · have v2 := sameC_eq (show (decide (S.C.coils = T.C.coils) && (decide (S.C.shells = T.C.shells) && decide (S.C.plasma = T.C.plasma))) = true by simpa using hb2)
      refine al_p (q_fieldAddr 4 rfl Tryz.runUnderlying35 rfl Tryz.sizeOf30 (by decide) rfl) ?_
      refine al_p (q_load (i := 1) rfl rfl rfl Tryz.isAgg30) ?_
      refine al_p (q_fieldAddr 4 rfl Tryz.runUnderlying35 rfl Tryz.sizeOf30 (by decide) rfl) ?_
      refine al_p (q_load (i := 0) rfl rfl rfl Tryz.isAgg30) ?_
      refine al_call Tryz.call30 (.cons rfl (.cons rfl .nil)) rfl rfl (fun w2 hs2 => ?_)
      refine (rsame_any P.H Q.H P.lh P.ch Q.lh Q.ch S.heat T.heat _ (a1.heat.below hs2.below) (a2.heat.below hs2.below) a1.kh a2.kh).mono ?_
      rintro e u2 ⟨rfl, hb_2⟩
      refine ⟨_, rfl, hb_2, ?_⟩
      clear hs2
      refine al_p (q_not rfl) ?_
      refine al_p (q_pickF rfl rfl) ?_
      refine al_p (q_move rfl) ?_
      refine aq_split 27 rfl (fun hb3 => ?_) (fun hb3 => ?_)
      · have v3 : ¬ sameS S T := fun h => by have := h.2.2.1; simp [this] at hb3
        refine al_skip rfl rfl rfl ?_
        refine al_skip rfl rfl rfl ?_
        refine al_skip rfl rfl rfl ?_
        refine al_skip rfl rfl rfl ?_
        refine al_skip rfl rfl rfl ?_
        refine al_skip rfl rfl rfl ?_
        refine al_skip rfl rfl rfl ?_
        refine al_p (q_pickT rfl rfl) ?_
        refine al_end (aq_then ?_)
        refine ac_condT rfl ?_
        refine ac_seq (ac_region ?_)
        refine al_p (q_assign rfl) ?_
        refine al_end (aq_then ?_)
        refine ac_ret ?_
        refine aq_thenR ?_
        refine ret1 Tryz.results11 rfl (fun w9 hs => ?_)
        rw [decide_eq_false v3]; exact ⟨rfl, hs.below⟩
      · have v3 : S.heat = T.heat := by simpa using hb3
        refine al_p (q_fieldAddr 5 rfl Tryz.runUnderlying35 rfl Tryz.sizeOf33 (by decide) rfl) ?_
        refine al_p (q_load (i := 1) rfl rfl rfl Tryz.isAgg33) ?_
        refine al_p (q_lenS rfl Tryz.runUnderlying33) ?_
        refine al_p (q_fieldAddr 5 rfl Tryz.runUnderlying35 rfl Tryz.sizeOf33 (by decide) rfl) ?_
        refine al_p (q_load (i := 0) rfl rfl rfl Tryz.isAgg33) ?_
        refine al_p (q_lenS rfl Tryz.runUnderlying33) ?_
        refine al_p (q_neq rfl rfl) ?_
        refine al_p (q_pickF rfl rfl) ?_
        refine al_end (aq_then ?_)
        refine ac_cond rfl (fun h1 => ?_) (fun h1 => ?_)
        · have v4 : ¬ sameS S T := fun h => by have := h.2.2.2; rw [this] at n1; simp at h1; omega
          refine ac_seq (ac_region ?_)
          refine al_p (q_assign rfl) ?_
          refine al_end (aq_then ?_)
          refine ac_ret ?_
          refine aq_thenR ?_
          refine ret1 Tryz.results11 rfl (fun w9 hs => ?_)
          rw [decide_eq_false v4]; exact ⟨rfl, hs.below⟩
        · have v4 : P.lt = Q.lt := by simp at h1; omega
          refine ac_skip ?_
          refine aq_then ?_
          refine ac_seq ?_
          refine ac_seq (ac_region ?_)
          refine al_p (q_assign rfl) ?_
          refine al_end (aq_then ?_)
          refine ac_block ?_
          refine ac_loop (β := Nat) (fun x => x ≤ P.lt ∧ ∀ j, j < x → bA S.trip j = bA T.trip j) (fun x => [(2, (.pointer (some ⟨b1, 0, none⟩))), (3, (.pointer (some ⟨b2, 0, none⟩))), (4, (.bool false)), (5, (.int .i64 (x : Int)))]) (fun _ => _) (fun x => [(b2, _), (b1, _)]) (fun x => P.lt - x) 0 ⟨by omega, fun j h => by omega⟩ ⟨rfl, rfl, rfl, rfl, trivial⟩ (fun w9 hs => hs) (fun x hF1 => ?_)
          refine ac_seq ?_
          refine ac_seq (ac_region ?_)
          refine al_p (q_move rfl) ?_
          refine al_p (q_fieldAddr 5 rfl Tryz.runUnderlying35 rfl Tryz.sizeOf33 (by decide) rfl) ?_
          refine al_p (q_load (i := 1) rfl rfl rfl Tryz.isAgg33) ?_
          refine al_p (q_lenS rfl Tryz.runUnderlying33) ?_
          refine al_p (q_lss rfl rfl) ?_
          refine al_end (aq_then ?_)
          refine ac_cond rfl (fun h2 => ?_) (fun h2 => ?_)
          · have hxl : x < P.lt := by have := of_decide_eq_true h2; omega
            obtain ⟨b11, o11, hA1, hlt1, hget1⟩ := a1.trip.2 (by omega)
            have hx1 := bA_get (l := S.trip) (k := x) (by omega)
            obtain ⟨b21, o21, hA2, hlt2, hget2⟩ := a2.trip.2 (by omega)
            have hx2 := bA_get (l := T.trip) (k := x) (by omega)
            refine ac_skip ?_
            refine aq_then ?_
            refine ac_seq ?_
            refine ac_block ?_
            refine ac_seq ?_
            refine ac_draw 10 (by kernel_rfl) (by kernel_rfl) ?_
            refine ah_t 0 (fun w9 hs => hs) rfl rfl (by kernel_rfl) (q_fieldAddr 5 rfl Tryz.runUnderlying35 rfl Tryz.sizeOf33 (by decide) rfl) ?_
            refine ah_t 1 (fun w9 hs => hs) rfl rfl (by kernel_rfl) (q_load (i := 1) rfl rfl rfl Tryz.isAgg33) ?_
            refine ah_t 2 (fun w9 hs => hs) rfl rfl (by kernel_rfl) (q_move rfl) ?_
            refine ah_t 3 (fun w9 hs => hs) rfl rfl (by kernel_rfl) (q_indexAddrA (i := x) (o11 + x * 1 + 0) hA1 rfl rfl rfl (by omega) Tryz.runUnderlying33 Tryz.sizeOf4 rfl) ?_
            refine ah_t 4 (fun w9 hs => hs) rfl rfl (by kernel_rfl) (q_loadX rfl Tryz.isAgg4 (fun w9 hs => (hs.below.cell (p := ⟨_, _, none⟩) hlt1).trans ((hget1 x _ hx1) 0 _ rfl))) ?_
            refine ah_t 5 (fun w9 hs => hs) rfl rfl (by kernel_rfl) (q_fieldAddr 5 rfl Tryz.runUnderlying35 rfl Tryz.sizeOf33 (by decide) rfl) ?_
            refine ah_t 6 (fun w9 hs => hs) rfl rfl (by kernel_rfl) (q_load (i := 0) rfl rfl rfl Tryz.isAgg33) ?_
            refine ah_t 7 (fun w9 hs => hs) rfl rfl (by kernel_rfl) (q_move rfl) ?_
            refine ah_t 8 (fun w9 hs => hs) rfl rfl (by kernel_rfl) (q_indexAddrA (i := x) (o21 + x * 1 + 0) hA2 rfl rfl rfl (by omega) Tryz.runUnderlying33 Tryz.sizeOf4 rfl) ?_
            refine ah_t 9 (fun w9 hs => hs) rfl rfl (by kernel_rfl) (q_loadX rfl Tryz.isAgg4 (fun w9 hs => (hs.below.cell (p := ⟨_, _, none⟩) hlt2).trans ((hget2 x _ hx2) 0 _ rfl))) ?_
            refine ah_t 10 (fun w9 hs => hs) rfl rfl (by kernel_rfl) (q_neqB rfl rfl Tryz.underlying4) ?_
            refine ah_done (by kernel_rfl) ?_
            refine aq_then ?_
            refine ac_cond rfl (fun h3 => ?_) (fun h3 => ?_)
            · have v5 : ¬ sameS S T := fun h => by have := h.2.2.2; simp [this] at h3
              refine ac_seq (ac_region ?_)
              refine al_p (q_assign rfl) ?_
              refine al_end (aq_then ?_)
              refine aq_keepL [2, 3, 4, 5, 36, 37, 38, 39, 40, 43, 44, 45, 46, 47, 48, 49, 50, 51, 52, 53] (.cons rfl (.cons rfl (.cons rfl (.cons rfl (.cons rfl (.cons rfl (.cons rfl (.cons rfl (.cons rfl (.cons rfl (.cons rfl (.cons rfl (.cons rfl (.cons rfl (.cons rfl (.cons rfl (.cons rfl (.cons rfl (.cons rfl (.cons rfl .nil)))))))))))))))))))) ?_
              refine ac_ret ?_
              refine aq_inR ?_
              refine aq_thenR ?_
              refine aq_thenR ?_
              refine aq_inR ?_
              refine aq_thenR ?_
              refine ret1 Tryz.results11 rfl (fun w9 hs => ?_)
              rw [decide_eq_false v5]; exact ⟨rfl, hs.below⟩
            · have v5 : bA S.trip x = bA T.trip x := by simpa using h3
              refine ac_skip ?_
              refine aq_inN ?_
              refine aq_then ?_
              refine ac_region ?_
              refine al_p (q_move rfl) ?_
              refine al_p (q_add rfl rfl (by omega)) ?_
              refine al_p (q_assign rfl) ?_
              refine al_end (aq_then ?_)
              skip
              refine aq_round (x + 1) (by omega) ⟨by omega, upTo hF1.2 v5⟩ ⟨rfl, rfl, rfl, rfl, trivial⟩ (fun w9 hs => hs)
          · have hxe : x = P.lt := by have := of_decide_eq_false h2; omega
            refine ac_exit ?_
            refine aq_thenE ?_
            refine aq_thenE ?_
            refine aq_hit ?_
            refine aq_then ?_
            refine ac_seq (ac_region ?_)
            refine al_p (q_assign rfl) ?_
            refine al_end (aq_then ?_)
            refine ac_ret ?_
            refine ret1 Tryz.results11 rfl (fun w9 hs => ?_)
            rw [decide_eq_true (show sameS S T from ⟨v1, v2, v3, listB_ext (by omega) (fun j hj => hF1.2 j (by omega))⟩)]; exact ⟨rfl, hs.below⟩

end Go.Proofs.YtkhahbnagbjbiaaGreat
end
section
/- The laws of layer 3: example, awake, brief, over this seat's translation (written by ax_ci13.py). -/
namespace Go.Proofs.YtkhahbnagbjbiaaGreat
set_option linter.unusedVariables false
set_option linter.unusedSimpArgs false
open Go.RowKit

def exK : MachD := ⟨⟨#[97]⟩, [⟨⟨#[99]⟩, 0, 0, 2, 5000, 2000, 1000000, 1000⟩], [⟨9, 0, 1000000, 100⟩], [⟨5, 0⟩], ⟨3, 0, 1, 1, 1⟩, []⟩
def exS1 : StD := stepD exK (beginD exK) [2000] [0]
theorem exK_ok : checkC exK = 0 := by kernel_rfl
theorem exStep : stepE exK (beginD exK) [2000] [0] = 0 := by kernel_rfl
theorem exHeat : exS1.heat = [3000] := by kernel_rfl
theorem exCoil : exS1.C.coils = [2000] := by kernel_rfl
theorem begin_ex (R : MachR) (w : World) (hM : IsM w R exK) : Calls Tryz.prog 22 #[.agg (machCells R exK)] w (fun e w' => ∃ x : StR, e = .returned (.tuple #[x.v 0, .int .i64 0]) ∧ IsS w' x (beginD exK) ∧ x.All (fun b => w.heap.size ≤ b) ∧ Below w.heap.size w w') := by
  refine (begin_ok R exK w hM exK_ok).mono ?_
  rintro e w' ⟨x, n, rfl, h1, h2, hb⟩
  obtain ⟨rfl, h3, h4⟩ := h1 rfl
  exact ⟨x, rfl, h3, h4, hb⟩
theorem step_ex (R : MachR) (x : StR) (A1 A2 : Option Addr) (w : World) (hM : IsM w R exK) (hS : IsS w x (beginD exK)) (i1 : IsT 1 intCells w A1 1 [2000]) (i2 : IsT 1 intCells w A2 1 [0]) : Calls Tryz.prog 9 #[.agg (machCells R exK), x.v 0, .agg #[.slice A1 1 1, .slice A2 1 1]] w (fun e w' => ∃ y : StR, e = .returned (.tuple #[y.v 1, .int .i64 0]) ∧ IsS w' y exS1 ∧ y.All (fun b => w.heap.size ≤ b) ∧ Below w.heap.size w w') := by
  refine (cstep_any R exK x (beginD exK) A1 A2 1 1 1 1 [2000] [0] w hM hS i1 i2 ⟨by decide, by decide⟩).mono ?_
  rintro e w' ⟨y, n, rfl, h1, h2, hb⟩
  rw [exStep] at h1 ⊢
  obtain ⟨rfl, h3, h4⟩ := h1 rfl
  exact ⟨y, rfl, h3, h4, hb⟩

theorem kis_bl_apiCoil_0_3_4_5_6_7 (a0 a1 a2 a3 a4 a5 : Value) (ha0 : a0.oneCell' = true) (ha1 : a1.oneCell' = true) (ha2 : a2.oneCell' = true) (ha3 : a3.oneCell' = true) (ha4 : a4.oneCell' = true) (ha5 : a5.oneCell' = true) : ∀ w, (Instr.build 88 #[(0, a0), (3, a1), (4, a2), (5, a3), (6, a4), (7, a5)]).run Tryz.prog w = .ok (.agg #[a0, (.int .i64 0), (.int .i64 0), a1, a2, a3, a4, a5]) w := by
  have ea0 : a0.cells = #[a0] := cells_one ha0
  have ea1 : a1.cells = #[a1] := cells_one ha1
  have ea2 : a2.cells = #[a2] := cells_one ha2
  have ea3 : a3.cells = #[a3] := cells_one ha3
  have ea4 : a4.cells = #[a4] := cells_one ha4
  have ea5 : a5.cells = #[a5] := cells_one ha5
  intro w; simp [Instr.build, Instr.fill, cells_agg, Tryz.runUnderlying88, Tryz.zeroValue88, Tryz.sizeOf3, Tryz.sizeOf9, ea0, ea1, ea2, ea3, ea4, ea5]

theorem kis_bs_apiCoil_1_0_ (c0_0 c0_1 c0_2 c0_3 c0_4 c0_5 c0_6 c0_7 : Value) : ∀ w, (Instr.buildSlice 22 1 #[(0, .agg #[c0_0, c0_1, c0_2, c0_3, c0_4, c0_5, c0_6, c0_7])]).run Tryz.prog w = .ok (.slice (some ⟨w.heap.size, 0, none⟩) 1 1) (w.alloc (.cells [c0_0, c0_1, c0_2, c0_3, c0_4, c0_5, c0_6, c0_7].toArray 88)) := by
  intro w; (simp [Instr.buildSlice, Instr.fill, cells_agg, newRow, Tryz.runUnderlying22, Tryz.zeroValue88, Tryz.sizeOf88] <;> (rw [(by kernel_rfl : Array.range 8 = #[0, 1, 2, 3, 4, 5, 6, 7])]; simp [Value.cells]))

theorem kis_bl_apiShell_0_2_3 (a0 a1 a2 : Value) (ha0 : a0.oneCell' = true) (ha1 : a1.oneCell' = true) (ha2 : a2.oneCell' = true) : ∀ w, (Instr.build 90 #[(0, a0), (2, a1), (3, a2)]).run Tryz.prog w = .ok (.agg #[a0, (.int .i64 0), a1, a2]) w := by
  have ea0 : a0.cells = #[a0] := cells_one ha0
  have ea1 : a1.cells = #[a1] := cells_one ha1
  have ea2 : a2.cells = #[a2] := cells_one ha2
  intro w; simp [Instr.build, Instr.fill, cells_agg, Tryz.runUnderlying90, Tryz.zeroValue90, Tryz.sizeOf3, ea0, ea1, ea2]

theorem kis_bs_apiShell_1_0_ (c0_0 c0_1 c0_2 c0_3 : Value) : ∀ w, (Instr.buildSlice 23 1 #[(0, .agg #[c0_0, c0_1, c0_2, c0_3])]).run Tryz.prog w = .ok (.slice (some ⟨w.heap.size, 0, none⟩) 1 1) (w.alloc (.cells [c0_0, c0_1, c0_2, c0_3].toArray 90)) := by
  intro w; (simp [Instr.buildSlice, Instr.fill, cells_agg, newRow, Tryz.runUnderlying23, Tryz.zeroValue90, Tryz.sizeOf90] <;> (rw [(by kernel_rfl : Array.range 4 = #[0, 1, 2, 3])]; simp [Value.cells]))

theorem kis_bl_apiPoint_0_ (a0 : Value) (ha0 : a0.oneCell' = true) : ∀ w, (Instr.build 92 #[(0, a0)]).run Tryz.prog w = .ok (.agg #[a0, (.int .i64 0)]) w := by
  have ea0 : a0.cells = #[a0] := cells_one ha0
  intro w; simp [Instr.build, Instr.fill, cells_agg, Tryz.runUnderlying92, Tryz.zeroValue92, Tryz.sizeOf3, ea0]

theorem kis_bs_apiPoint_1_0_ (c0_0 c0_1 : Value) : ∀ w, (Instr.buildSlice 24 1 #[(0, .agg #[c0_0, c0_1])]).run Tryz.prog w = .ok (.slice (some ⟨w.heap.size, 0, none⟩) 1 1) (w.alloc (.cells [c0_0, c0_1].toArray 92)) := by
  intro w; (simp [Instr.buildSlice, Instr.fill, cells_agg, newRow, Tryz.runUnderlying24, Tryz.zeroValue92, Tryz.sizeOf92] <;> (rw [(by kernel_rfl : Array.range 2 = #[0, 1])]; simp [Value.cells]))

theorem kis_bl_apiGrid_0_2_3_4 (a0 a1 a2 a3 : Value) (ha0 : a0.oneCell' = true) (ha1 : a1.oneCell' = true) (ha2 : a2.oneCell' = true) (ha3 : a3.oneCell' = true) : ∀ w, (Instr.build 26 #[(0, a0), (2, a1), (3, a2), (4, a3)]).run Tryz.prog w = .ok (.agg #[a0, (.int .i64 0), a1, a2, a3]) w := by
  have ea0 : a0.cells = #[a0] := cells_one ha0
  have ea1 : a1.cells = #[a1] := cells_one ha1
  have ea2 : a2.cells = #[a2] := cells_one ha2
  have ea3 : a3.cells = #[a3] := cells_one ha3
  intro w; simp [Instr.build, Instr.fill, cells_agg, Tryz.runUnderlying26, Tryz.zeroValue26, Tryz.sizeOf3, ea0, ea1, ea2, ea3]

theorem kis_bl_apiMachine_0_1_2_3_4 (a0 a1 a2 a3 c4_0 c4_1 c4_2 c4_3 c4_4 : Value) (ha0 : a0.oneCell' = true) (ha1 : a1.oneCell' = true) (ha2 : a2.oneCell' = true) (ha3 : a3.oneCell' = true) : ∀ w, (Instr.build 29 #[(0, a0), (1, a1), (2, a2), (3, a3), (4, .agg #[c4_0, c4_1, c4_2, c4_3, c4_4])]).run Tryz.prog w = .ok (.agg #[a0, a1, a2, a3, c4_0, c4_1, c4_2, c4_3, c4_4, (.slice none 0 0)]) w := by
  have ea0 : a0.cells = #[a0] := cells_one ha0
  have ea1 : a1.cells = #[a1] := cells_one ha1
  have ea2 : a2.cells = #[a2] := cells_one ha2
  have ea3 : a3.cells = #[a3] := cells_one ha3
  intro w; simp [Instr.build, Instr.fill, cells_agg, Tryz.runUnderlying29, Tryz.zeroValue29, Tryz.sizeOf9, Tryz.sizeOf22, Tryz.sizeOf23, Tryz.sizeOf24, Tryz.sizeOf26, Tryz.sizeOf27, ea0, ea1, ea2, ea3]

set_option maxRecDepth 100000 in
theorem example3_any (w : World) : Calls Tryz.prog 21 #[] w (fun e w' => ∃ R, e = .returned (.agg (machCells R exK)) ∧ IsM w' R exK ∧ NewM w R ∧ Below w.heap.size w w') := by
  refine calls_ax (vs := []) Tryz.func21 rfl rfl ?_
  refine ac_seq (ac_region ?_)
  refine al_new (fun b => .pointer (some ⟨b, 0, none⟩)) (r_alloc Tryz.zeroValue29 rfl) rfl rfl rfl ?_
  intro b1
  refine al_end (aq_then ?_)
  refine ac_seq (ac_region ?_)
  refine al_p (q_build (.cons rfl (.cons rfl (.cons rfl (.cons rfl (.cons rfl (.cons rfl .nil)))))) (kis_bl_apiCoil_0_3_4_5_6_7 _ _ _ _ _ _ rfl rfl rfl rfl rfl rfl)) ?_
  refine al_new (fun b => .slice (some ⟨b, 0, none⟩) 1 1) (r_buildSlice (.cons rfl .nil) (kis_bs_apiCoil_1_0_ _ _ _ _ _ _ _ _)) rfl rfl rfl ?_
  intro b2
  refine al_p (q_build (.cons rfl (.cons rfl (.cons rfl .nil))) (kis_bl_apiShell_0_2_3 _ _ _ rfl rfl rfl)) ?_
  refine al_new (fun b => .slice (some ⟨b, 0, none⟩) 1 1) (r_buildSlice (.cons rfl .nil) (kis_bs_apiShell_1_0_ _ _ _ _)) rfl rfl rfl ?_
  intro b3
  refine al_p (q_build (.cons rfl .nil) (kis_bl_apiPoint_0_ _ rfl)) ?_
  refine al_new (fun b => .slice (some ⟨b, 0, none⟩) 1 1) (r_buildSlice (.cons rfl .nil) (kis_bs_apiPoint_1_0_ _ _)) rfl rfl rfl ?_
  intro b4
  refine al_p (q_build (.cons rfl (.cons rfl (.cons rfl (.cons rfl .nil)))) (kis_bl_apiGrid_0_2_3_4 _ _ _ _ rfl rfl rfl rfl)) ?_
  refine al_p (q_build (.cons rfl (.cons rfl (.cons rfl (.cons rfl (.cons rfl .nil))))) (kis_bl_apiMachine_0_1_2_3_4 _ _ _ _ _ _ _ _ _ rfl rfl rfl rfl)) ?_
  refine al_storeAll (i := 3) rfl rfl rfl rfl Tryz.sizeOf29 rfl rfl .k3 rfl ?_
  refine al_end (aq_then ?_)
  refine ac_ret ?_
  refine retR Tryz.results21 (.agg (i := 3) rfl rfl Tryz.isAgg29 Tryz.sizeOf29 rfl .nil) .one (fun w9 hs => ?_)
  exact ⟨⟨some ⟨b2, 0, none⟩, some ⟨b3, 0, none⟩, some ⟨b4, 0, none⟩, none, 1, 1, 1, 1, 1, 1, 0, 0⟩, rfl, ⟨isT_box0 (n := 8) (enc := CoilD.cells) (fun _ => rfl) (hs.at 2 rfl) rfl rfl, isT_box0 (n := 4) (enc := ShellD.cells) (fun _ => rfl) (hs.at 1 rfl) rfl rfl, isT_box0 (n := 2) (enc := PointD.cells) (fun _ => rfl) (hs.at 0 rfl) rfl rfl, ⟨rfl, fun h => absurd h (Nat.lt_irrefl 0)⟩, by simp, by simp, by simp, by simp, by simp, by simp, by simp, by simp, by simp, by simp, by simp, by simp⟩, ⟨hs.new 2 rfl, hs.new 1 rfl, hs.new 0 rfl, new_none _⟩, hs.below⟩

theorem kis_bs_int_1_0_ (a0 : Value) (ha0 : a0.oneCell' = true) : ∀ w, (Instr.buildSlice 30 1 #[(0, a0)]).run Tryz.prog w = .ok (.slice (some ⟨w.heap.size, 0, none⟩) 1 1) (w.alloc (.cells [a0].toArray 3)) := by
  have ea0 : a0.cells = #[a0] := cells_one ha0
  intro w; (simp [Instr.buildSlice, Instr.fill, cells_agg, newRow, Tryz.runUnderlying30, Tryz.zeroValue3, Tryz.sizeOf3, ea0] <;> (rw [(by kernel_rfl : Array.range 1 = #[0])]; simp [Value.cells]))

theorem kis_bl_apiDrive_0_1 (a0 a1 : Value) (ha0 : a0.oneCell' = true) (ha1 : a1.oneCell' = true) : ∀ w, (Instr.build 37 #[(0, a0), (1, a1)]).run Tryz.prog w = .ok (.agg #[a0, a1]) w := by
  have ea0 : a0.cells = #[a0] := cells_one ha0
  have ea1 : a1.cells = #[a1] := cells_one ha1
  intro w; simp [Instr.build, Instr.fill, cells_agg, Tryz.runUnderlying37, Tryz.zeroValue37, Tryz.sizeOf30, ea0, ea1]

set_option maxRecDepth 100000 in
theorem awake3_any (w : World) : Calls Tryz.prog 8 #[] w (Ret (.bool true) w) := by
  refine calls_ax (vs := []) Tryz.func8 rfl rfl ?_
  refine ac_seq (ac_region ?_)
  refine al_p (q_assign rfl) ?_
  refine al_end (aq_then ?_)
  refine ac_seq (ac_region ?_)
  refine al_call Tryz.call21 .nil rfl rfl (fun w1 hs1 => ?_)
  refine (example3_any _).mono ?_
  rintro e u1 ⟨R, rfl, hM, hN, hb_1⟩
  refine ⟨_, rfl, hb_1, ?_⟩
  clear hs1
  refine al_new (fun b => .pointer (some ⟨b, 0, none⟩)) (r_alloc Tryz.zeroValue29 rfl) rfl rfl rfl ?_
  intro b1
  refine al_storeAll (i := 0) rfl rfl rfl rfl Tryz.sizeOf29 rfl rfl .k0 rfl ?_
  refine al_end (aq_then ?_)
  refine ac_seq (ac_region ?_)
  refine al_p (q_loadAll (i := 0) rfl rfl Tryz.isAgg29 Tryz.sizeOf29 rfl) ?_
  refine al_call Tryz.call22 (.cons rfl .nil) rfl rfl (fun w2 hs2 => ?_)
  refine (begin_ex R _ (hs2.isM (.head _) hM hN)).mono ?_
  rintro e u2 ⟨x, rfl, hX, hXn, hb_2⟩
  refine ⟨_, rfl, hb_2, ?_⟩
  clear hs2
  refine al_p (q_move rfl) ?_
  refine al_p (q_extract rfl rfl) ?_
  refine al_p (q_extract rfl rfl) ?_
  refine al_new (fun b => .pointer (some ⟨b, 0, none⟩)) (r_alloc Tryz.zeroValue35 rfl) rfl rfl rfl ?_
  intro b2
  refine al_storeAll (i := 0) rfl rfl rfl rfl Tryz.sizeOf35 rfl rfl .k0 rfl ?_
  refine al_p (q_assign rfl) ?_
  refine al_end (aq_then ?_)
  refine ac_seq (ac_region ?_)
  refine al_p (q_loadAll (i := 1) rfl rfl Tryz.isAgg29 Tryz.sizeOf29 rfl) ?_
  refine al_p (q_loadAll (i := 0) rfl rfl Tryz.isAgg35 Tryz.sizeOf35 rfl) ?_
  refine al_new (fun b => .slice (some ⟨b, 0, none⟩) 1 1) (r_buildSlice (.cons rfl .nil) (kis_bs_int_1_0_ _ rfl)) rfl rfl rfl ?_
  intro b3
  refine al_new (fun b => .slice (some ⟨b, 0, none⟩) 1 1) (r_buildSlice (.cons rfl .nil) (kis_bs_int_1_0_ _ rfl)) rfl rfl rfl ?_
  intro b4
  refine al_p (q_build (.cons rfl (.cons rfl .nil)) (kis_bl_apiDrive_0_1 _ _ rfl rfl)) ?_
  refine al_call Tryz.call9 (.cons rfl (.cons rfl (.cons rfl .nil))) rfl rfl (fun w3 hs3 => ?_)
  refine (step_ex R x _ _ _ (hs3.isM (.tail _ (.head _)) hM hN) (hs3.isS (.head _) hX hXn) (isT_box0 (n := 1) (enc := intCells) (fun _ => rfl) (hs3.at 1 rfl) rfl rfl) (isT_box0 (n := 1) (enc := intCells) (fun _ => rfl) (hs3.at 0 rfl) rfl rfl)).mono ?_
  rintro e u3 ⟨y, rfl, hY, hYn, hb_3⟩
  have th := hY.heat
  have tc := hY.cur.coils
  rw [exHeat] at th
  rw [exCoil] at tc
  have hlh : y.lh = 1 := th.1.symm
  have hlc : y.Q.la = 1 := tc.1.symm
  obtain ⟨bh, oh, hAh, hlth, hgeth⟩ := th.2 (by omega)
  obtain ⟨bc, oc, hAc, hltc, hgetc⟩ := tc.2 (by omega)
  refine ⟨_, rfl, hb_3, ?_⟩
  clear hs3
  refine al_p (q_move rfl) ?_
  refine al_p (q_extract rfl rfl) ?_
  refine al_p (q_extract rfl rfl) ?_
  refine al_new (fun b => .pointer (some ⟨b, 0, none⟩)) (r_alloc Tryz.zeroValue35 rfl) rfl rfl rfl ?_
  intro b5
  refine al_storeAll (i := 0) rfl rfl rfl rfl Tryz.sizeOf35 rfl rfl .k0 rfl ?_
  refine al_p (q_assign rfl) ?_
  refine al_end (aq_then ?_)
  refine ac_seq (ac_region ?_)
  refine al_p (q_move rfl) ?_
  refine al_p (q_same (v' := .bool true) (q_eql rfl rfl) rfl) ?_
  refine al_p (q_move rfl) ?_
  refine al_p (q_move rfl) ?_
  refine al_p (q_same (v' := .bool true) (q_eql rfl rfl) rfl) ?_
  refine al_p (q_pickT rfl rfl) ?_
  refine al_p (q_move rfl) ?_
  refine al_p (q_fieldAddr 0 rfl Tryz.runUnderlying35 rfl Tryz.sizeOf3 (by decide) rfl) ?_
  refine al_p (q_load (i := 0) rfl rfl rfl Tryz.isAgg3) ?_
  refine al_p (q_same (v' := .bool true) (q_eql rfl rfl) rfl) ?_
  refine al_p (q_pickT rfl rfl) ?_
  refine al_p (q_move rfl) ?_
  refine al_p (q_fieldAddr 4 rfl Tryz.runUnderlying35 rfl Tryz.sizeOf30 (by decide) rfl) ?_
  refine al_p (q_load (i := 0) rfl rfl rfl Tryz.isAgg30) ?_
  refine al_p (q_lenS rfl Tryz.runUnderlying30) ?_
  refine al_p (q_same (v' := .bool true) (q_eql rfl rfl) (by rw [hlh]; rfl)) ?_
  refine al_p (q_pickT rfl rfl) ?_
  refine al_p (q_move rfl) ?_
  refine al_p (q_fieldAddr 4 rfl Tryz.runUnderlying35 rfl Tryz.sizeOf30 (by decide) rfl) ?_
  refine al_p (q_load (i := 0) rfl rfl rfl Tryz.isAgg30) ?_
  refine al_p (q_indexAddrA (i := 0) (oh + 0 * 1 + 0) hAh rfl rfl rfl (by omega) Tryz.runUnderlying30 Tryz.sizeOf3 rfl) ?_
  refine al_p (q_loadX rfl Tryz.isAgg3 (fun w9 hs => (hs.cellOf (.head _) (hYn.h _ _ hAh) hlth (hgeth 0 3000 rfl 0 _ rfl)))) ?_
  refine al_p (q_same (v' := .bool true) (q_eql rfl rfl) rfl) ?_
  refine al_p (q_pickT rfl rfl) ?_
  refine al_p (q_move rfl) ?_
  refine al_p (q_fieldAddr 1 rfl Tryz.runUnderlying35 rfl Tryz.sizeOf32 (by decide) rfl) ?_
  refine al_p (q_fieldAddr 1 rfl Tryz.runUnderlying32 rfl Tryz.sizeOf30 (by decide) rfl) ?_
  refine al_p (q_load (i := 0) rfl rfl rfl Tryz.isAgg30) ?_
  refine al_p (q_lenS rfl Tryz.runUnderlying30) ?_
  refine al_p (q_same (v' := .bool true) (q_eql rfl rfl) (by rw [hlc]; rfl)) ?_
  refine al_p (q_pickT rfl rfl) ?_
  refine al_p (q_move rfl) ?_
  refine al_p (q_fieldAddr 1 rfl Tryz.runUnderlying35 rfl Tryz.sizeOf32 (by decide) rfl) ?_
  refine al_p (q_fieldAddr 1 rfl Tryz.runUnderlying32 rfl Tryz.sizeOf30 (by decide) rfl) ?_
  refine al_p (q_load (i := 0) rfl rfl rfl Tryz.isAgg30) ?_
  refine al_p (q_indexAddrA (i := 0) (oc + 0 * 1 + 0) hAc rfl rfl rfl (by omega) Tryz.runUnderlying30 Tryz.sizeOf3 rfl) ?_
  refine al_p (q_loadX rfl Tryz.isAgg3 (fun w9 hs => (hs.cellOf (.head _) (hYn.a _ _ hAc) hltc (hgetc 0 2000 rfl 0 _ rfl)))) ?_
  refine al_p (q_same (v' := .bool true) (q_eql rfl rfl) rfl) ?_
  refine al_p (q_pickT rfl rfl) ?_
  refine al_p (q_assign rfl) ?_
  refine al_end (aq_then ?_)
  refine ac_ret ?_
  refine ret1 Tryz.results8 rfl (fun w9 hs => ?_)
  exact ⟨rfl, hs.below⟩

def BriefB (R : MachR) (RS : StR) : Prop := (R.la ≤ 40 ∧ R.lb ≤ 40 ∧ R.lc ≤ 40 ∧ R.ld ≤ 60) ∧ RS.Q.la ≤ 100 ∧ RS.Q.lb ≤ 100 ∧ RS.Q.lc ≤ 200 ∧ RS.lh ≤ 100

set_option maxRecDepth 100000 in
theorem brief3_any (R : MachR) (M : MachD) (RS : StR) (S : StD) (w : World) : Calls Tryz.prog 7 #[(.agg (machCells R M)), (RS.v S.tick)] w (fun e w' => ∃ b : Bool, e = .returned (.bool b) ∧ (b = true → BriefB R RS) ∧ Below w.heap.size w w') := by
  refine calls_ax (vs := [(.agg (machCells R M)), (RS.v S.tick)]) Tryz.func7 rfl rfl ?_
  refine ac_seq (ac_region ?_)
  refine al_new (fun b => .pointer (some ⟨b, 0, none⟩)) (r_box rfl rfl) rfl rfl rfl ?_
  intro b1
  refine al_new (fun b => .pointer (some ⟨b, 0, none⟩)) (r_box rfl rfl) rfl rfl rfl ?_
  intro b2
  refine al_p (q_assign rfl) ?_
  refine al_end (aq_then ?_)
  refine ac_seq (ac_region ?_)
  refine al_p (q_fieldAddr 1 rfl Tryz.runUnderlying29 rfl Tryz.sizeOf22 (by decide) rfl) ?_
  refine al_p (q_load (i := 1) rfl rfl rfl Tryz.isAgg22) ?_
  refine al_p (q_lenS rfl Tryz.runUnderlying22) ?_
  refine al_p (q_leq rfl rfl) ?_
  refine al_p (q_move rfl) ?_
  refine aq_split 9 rfl (fun hb1 => ?_) (fun hb1 => ?_)
  · have g9 := of_decide_eq_true hb1
    refine al_p (q_fieldAddr 2 rfl Tryz.runUnderlying29 rfl Tryz.sizeOf23 (by decide) rfl) ?_
    refine al_p (q_load (i := 1) rfl rfl rfl Tryz.isAgg23) ?_
    refine al_p (q_lenS rfl Tryz.runUnderlying23) ?_
    refine al_p (q_leq rfl rfl) ?_
    refine al_p (q_pickT rfl rfl) ?_
    refine al_p (q_move rfl) ?_
    refine aq_split 15 rfl (fun hb2 => ?_) (fun hb2 => ?_)
    · have g15 := of_decide_eq_true hb2
      refine al_p (q_fieldAddr 3 rfl Tryz.runUnderlying29 rfl Tryz.sizeOf24 (by decide) rfl) ?_
      refine al_p (q_load (i := 1) rfl rfl rfl Tryz.isAgg24) ?_
      refine al_p (q_lenS rfl Tryz.runUnderlying24) ?_
      refine al_p (q_leq rfl rfl) ?_
      refine al_p (q_pickT rfl rfl) ?_
      refine al_p (q_move rfl) ?_
      refine aq_split 21 rfl (fun hb3 => ?_) (fun hb3 => ?_)
      · have g21 := of_decide_eq_true hb3
        refine al_p (q_fieldAddr 9 rfl Tryz.runUnderlying29 rfl Tryz.sizeOf27 (by decide) rfl) ?_
        refine al_p (q_load (i := 1) rfl rfl rfl Tryz.isAgg27) ?_
        refine al_p (q_lenS rfl Tryz.runUnderlying27) ?_
        refine al_p (q_leq rfl rfl) ?_
        refine al_p (q_pickT rfl rfl) ?_
        refine al_p (q_move rfl) ?_
        refine aq_split 27 rfl (fun hb4 => ?_) (fun hb4 => ?_)
        · have g27 := of_decide_eq_true hb4
          refine al_p (q_fieldAddr 1 rfl Tryz.runUnderlying35 rfl Tryz.sizeOf32 (by decide) rfl) ?_
          refine al_p (q_fieldAddr 1 rfl Tryz.runUnderlying32 rfl Tryz.sizeOf30 (by decide) rfl) ?_
          refine al_p (q_load (i := 0) rfl rfl rfl Tryz.isAgg30) ?_
          refine al_p (q_lenS rfl Tryz.runUnderlying30) ?_
          refine al_p (q_leq rfl rfl) ?_
          refine al_p (q_pickT rfl rfl) ?_
          refine al_p (q_move rfl) ?_
          refine aq_split 34 rfl (fun hb5 => ?_) (fun hb5 => ?_)
          · have g34 := of_decide_eq_true hb5
            refine al_p (q_fieldAddr 1 rfl Tryz.runUnderlying35 rfl Tryz.sizeOf32 (by decide) rfl) ?_
            refine al_p (q_fieldAddr 2 rfl Tryz.runUnderlying32 rfl Tryz.sizeOf30 (by decide) rfl) ?_
            refine al_p (q_load (i := 0) rfl rfl rfl Tryz.isAgg30) ?_
            refine al_p (q_lenS rfl Tryz.runUnderlying30) ?_
            refine al_p (q_leq rfl rfl) ?_
            refine al_p (q_pickT rfl rfl) ?_
            refine al_p (q_move rfl) ?_
            refine aq_split 41 rfl (fun hb6 => ?_) (fun hb6 => ?_)
            · have g41 := of_decide_eq_true hb6
              refine al_p (q_fieldAddr 1 rfl Tryz.runUnderlying35 rfl Tryz.sizeOf32 (by decide) rfl) ?_
              refine al_p (q_fieldAddr 3 rfl Tryz.runUnderlying32 rfl Tryz.sizeOf30 (by decide) rfl) ?_
              refine al_p (q_load (i := 0) rfl rfl rfl Tryz.isAgg30) ?_
              refine al_p (q_lenS rfl Tryz.runUnderlying30) ?_
              refine al_p (q_leq rfl rfl) ?_
              refine al_p (q_pickT rfl rfl) ?_
              refine al_p (q_move rfl) ?_
              refine aq_split 48 rfl (fun hb7 => ?_) (fun hb7 => ?_)
              · have g48 := of_decide_eq_true hb7
                refine al_p (q_fieldAddr 4 rfl Tryz.runUnderlying35 rfl Tryz.sizeOf30 (by decide) rfl) ?_
                refine al_p (q_load (i := 0) rfl rfl rfl Tryz.isAgg30) ?_
                refine al_p (q_lenS rfl Tryz.runUnderlying30) ?_
                refine al_p (q_leq rfl rfl) ?_
                refine al_p (q_pickT rfl rfl) ?_
                refine al_p (q_assign rfl) ?_
                refine al_end (aq_then ?_)
                refine ac_ret ?_
                refine ret1 Tryz.results7 rfl (fun w9 hs => ?_)
                first | exact ⟨false, rfl, (fun h => by cases h), hs.below⟩ | exact ⟨_, rfl, (fun h => by have := of_decide_eq_true h; unfold BriefB; omega), hs.below⟩
              · skip
                refine al_skip rfl rfl rfl ?_
                refine al_skip rfl rfl rfl ?_
                refine al_skip rfl rfl rfl ?_
                refine al_skip rfl rfl rfl ?_
                refine al_p (q_pickF rfl rfl) ?_
                refine al_p (q_assign rfl) ?_
                refine al_end (aq_then ?_)
                refine ac_ret ?_
                refine ret1 Tryz.results7 rfl (fun w9 hs => ?_)
                first | exact ⟨false, rfl, (fun h => by cases h), hs.below⟩ | exact ⟨_, rfl, (fun h => by have := of_decide_eq_true h; unfold BriefB; omega), hs.below⟩
            · skip
              refine al_skip rfl rfl rfl ?_
              refine al_skip rfl rfl rfl ?_
              refine al_skip rfl rfl rfl ?_
              refine al_skip rfl rfl rfl ?_
              refine al_skip rfl rfl rfl ?_
              refine al_p (q_pickF rfl rfl) ?_
              refine al_p (q_move rfl) ?_
              refine al_skip rfl rfl rfl ?_
              refine al_skip rfl rfl rfl ?_
              refine al_skip rfl rfl rfl ?_
              refine al_skip rfl rfl rfl ?_
              refine al_p (q_pickF rfl rfl) ?_
              refine al_p (q_assign rfl) ?_
              refine al_end (aq_then ?_)
              refine ac_ret ?_
              refine ret1 Tryz.results7 rfl (fun w9 hs => ?_)
              first | exact ⟨false, rfl, (fun h => by cases h), hs.below⟩ | exact ⟨_, rfl, (fun h => by have := of_decide_eq_true h; unfold BriefB; omega), hs.below⟩
          · skip
            refine al_skip rfl rfl rfl ?_
            refine al_skip rfl rfl rfl ?_
            refine al_skip rfl rfl rfl ?_
            refine al_skip rfl rfl rfl ?_
            refine al_skip rfl rfl rfl ?_
            refine al_p (q_pickF rfl rfl) ?_
            refine al_p (q_move rfl) ?_
            refine al_skip rfl rfl rfl ?_
            refine al_skip rfl rfl rfl ?_
            refine al_skip rfl rfl rfl ?_
            refine al_skip rfl rfl rfl ?_
            refine al_skip rfl rfl rfl ?_
            refine al_p (q_pickF rfl rfl) ?_
            refine al_p (q_move rfl) ?_
            refine al_skip rfl rfl rfl ?_
            refine al_skip rfl rfl rfl ?_
            refine al_skip rfl rfl rfl ?_
            refine al_skip rfl rfl rfl ?_
            refine al_p (q_pickF rfl rfl) ?_
            refine al_p (q_assign rfl) ?_
            refine al_end (aq_then ?_)
            refine aq_keepL [4] (.cons rfl .nil) ?_
            refine ac_ret ?_
            refine ret1 Tryz.results7 rfl (fun w9 hs => ?_)
            first | exact ⟨false, rfl, (fun h => by cases h), hs.below⟩ | exact ⟨_, rfl, (fun h => by have := of_decide_eq_true h; unfold BriefB; omega), hs.below⟩
        · skip
          refine al_skip rfl rfl rfl ?_
          refine al_skip rfl rfl rfl ?_
          refine al_skip rfl rfl rfl ?_
          refine al_skip rfl rfl rfl ?_
          refine al_skip rfl rfl rfl ?_
          refine al_p (q_pickF rfl rfl) ?_
          refine al_p (q_move rfl) ?_
          refine al_skip rfl rfl rfl ?_
          refine al_skip rfl rfl rfl ?_
          refine al_skip rfl rfl rfl ?_
          refine al_skip rfl rfl rfl ?_
          refine al_skip rfl rfl rfl ?_
          refine al_p (q_pickF rfl rfl) ?_
          refine al_p (q_move rfl) ?_
          refine al_skip rfl rfl rfl ?_
          refine al_skip rfl rfl rfl ?_
          refine al_skip rfl rfl rfl ?_
          refine al_skip rfl rfl rfl ?_
          refine al_skip rfl rfl rfl ?_
          refine al_p (q_pickF rfl rfl) ?_
          refine al_p (q_move rfl) ?_
          refine al_skip rfl rfl rfl ?_
          refine al_skip rfl rfl rfl ?_
          refine al_skip rfl rfl rfl ?_
          refine al_skip rfl rfl rfl ?_
          refine al_p (q_pickF rfl rfl) ?_
          refine al_p (q_assign rfl) ?_
          refine al_end (aq_then ?_)
          refine ac_ret ?_
          refine ret1 Tryz.results7 rfl (fun w9 hs => ?_)
          first | exact ⟨false, rfl, (fun h => by cases h), hs.below⟩ | exact ⟨_, rfl, (fun h => by have := of_decide_eq_true h; unfold BriefB; omega), hs.below⟩
      · skip
        refine al_skip rfl rfl rfl ?_
        refine al_skip rfl rfl rfl ?_
        refine al_skip rfl rfl rfl ?_
        refine al_skip rfl rfl rfl ?_
        refine al_p (q_pickF rfl rfl) ?_
        refine al_p (q_move rfl) ?_
        refine al_skip rfl rfl rfl ?_
        refine al_skip rfl rfl rfl ?_
        refine al_skip rfl rfl rfl ?_
        refine al_skip rfl rfl rfl ?_
        refine al_skip rfl rfl rfl ?_
        refine al_p (q_pickF rfl rfl) ?_
        refine al_p (q_move rfl) ?_
        refine al_skip rfl rfl rfl ?_
        refine al_skip rfl rfl rfl ?_
        refine al_skip rfl rfl rfl ?_
        refine al_skip rfl rfl rfl ?_
        refine al_skip rfl rfl rfl ?_
        refine al_p (q_pickF rfl rfl) ?_
        refine al_p (q_move rfl) ?_
        refine al_skip rfl rfl rfl ?_
        refine al_skip rfl rfl rfl ?_
        refine al_skip rfl rfl rfl ?_
        refine al_skip rfl rfl rfl ?_
        refine al_skip rfl rfl rfl ?_
        refine al_p (q_pickF rfl rfl) ?_
        refine al_p (q_move rfl) ?_
        refine al_skip rfl rfl rfl ?_
        refine al_skip rfl rfl rfl ?_
        refine al_skip rfl rfl rfl ?_
        refine al_skip rfl rfl rfl ?_
        refine al_p (q_pickF rfl rfl) ?_
        refine al_p (q_assign rfl) ?_
        refine al_end (aq_then ?_)
        refine ac_ret ?_
        refine ret1 Tryz.results7 rfl (fun w9 hs => ?_)
        first | exact ⟨false, rfl, (fun h => by cases h), hs.below⟩ | exact ⟨_, rfl, (fun h => by have := of_decide_eq_true h; unfold BriefB; omega), hs.below⟩
    · skip
      refine al_skip rfl rfl rfl ?_
      refine al_skip rfl rfl rfl ?_
      refine al_skip rfl rfl rfl ?_
      refine al_skip rfl rfl rfl ?_
      refine al_p (q_pickF rfl rfl) ?_
      refine al_p (q_move rfl) ?_
      refine al_skip rfl rfl rfl ?_
      refine al_skip rfl rfl rfl ?_
      refine al_skip rfl rfl rfl ?_
      refine al_skip rfl rfl rfl ?_
      refine al_p (q_pickF rfl rfl) ?_
      refine al_p (q_move rfl) ?_
      refine al_skip rfl rfl rfl ?_
      refine al_skip rfl rfl rfl ?_
      refine al_skip rfl rfl rfl ?_
      refine al_skip rfl rfl rfl ?_
      refine al_skip rfl rfl rfl ?_
      refine al_p (q_pickF rfl rfl) ?_
      refine al_p (q_move rfl) ?_
      refine al_skip rfl rfl rfl ?_
      refine al_skip rfl rfl rfl ?_
      refine al_skip rfl rfl rfl ?_
      refine al_skip rfl rfl rfl ?_
      refine al_skip rfl rfl rfl ?_
      refine al_p (q_pickF rfl rfl) ?_
      refine al_p (q_move rfl) ?_
      refine al_skip rfl rfl rfl ?_
      refine al_skip rfl rfl rfl ?_
      refine al_skip rfl rfl rfl ?_
      refine al_skip rfl rfl rfl ?_
      refine al_skip rfl rfl rfl ?_
      refine al_p (q_pickF rfl rfl) ?_
      refine al_p (q_move rfl) ?_
      refine al_skip rfl rfl rfl ?_
      refine al_skip rfl rfl rfl ?_
      refine al_skip rfl rfl rfl ?_
      refine al_skip rfl rfl rfl ?_
      refine al_p (q_pickF rfl rfl) ?_
      refine al_p (q_assign rfl) ?_
      refine al_end (aq_then ?_)
      refine ac_ret ?_
      refine ret1 Tryz.results7 rfl (fun w9 hs => ?_)
      first | exact ⟨false, rfl, (fun h => by cases h), hs.below⟩ | exact ⟨_, rfl, (fun h => by have := of_decide_eq_true h; unfold BriefB; omega), hs.below⟩
  · skip
    refine al_skip rfl rfl rfl ?_
    refine al_skip rfl rfl rfl ?_
    refine al_skip rfl rfl rfl ?_
    refine al_skip rfl rfl rfl ?_
    refine al_p (q_pickF rfl rfl) ?_
    refine al_p (q_move rfl) ?_
    refine al_skip rfl rfl rfl ?_
    refine al_skip rfl rfl rfl ?_
    refine al_skip rfl rfl rfl ?_
    refine al_skip rfl rfl rfl ?_
    refine al_p (q_pickF rfl rfl) ?_
    refine al_p (q_move rfl) ?_
    refine al_skip rfl rfl rfl ?_
    refine al_skip rfl rfl rfl ?_
    refine al_skip rfl rfl rfl ?_
    refine al_skip rfl rfl rfl ?_
    refine al_p (q_pickF rfl rfl) ?_
    refine al_p (q_move rfl) ?_
    refine al_skip rfl rfl rfl ?_
    refine al_skip rfl rfl rfl ?_
    refine al_skip rfl rfl rfl ?_
    refine al_skip rfl rfl rfl ?_
    refine al_skip rfl rfl rfl ?_
    refine al_p (q_pickF rfl rfl) ?_
    refine al_p (q_move rfl) ?_
    refine al_skip rfl rfl rfl ?_
    refine al_skip rfl rfl rfl ?_
    refine al_skip rfl rfl rfl ?_
    refine al_skip rfl rfl rfl ?_
    refine al_skip rfl rfl rfl ?_
    refine al_p (q_pickF rfl rfl) ?_
    refine al_p (q_move rfl) ?_
    refine al_skip rfl rfl rfl ?_
    refine al_skip rfl rfl rfl ?_
    refine al_skip rfl rfl rfl ?_
    refine al_skip rfl rfl rfl ?_
    refine al_skip rfl rfl rfl ?_
    refine al_p (q_pickF rfl rfl) ?_
    refine al_p (q_move rfl) ?_
    refine al_skip rfl rfl rfl ?_
    refine al_skip rfl rfl rfl ?_
    refine al_skip rfl rfl rfl ?_
    refine al_skip rfl rfl rfl ?_
    refine al_p (q_pickF rfl rfl) ?_
    refine al_p (q_assign rfl) ?_
    refine al_end (aq_then ?_)
    refine ac_ret ?_
    refine ret1 Tryz.results7 rfl (fun w9 hs => ?_)
    first | exact ⟨false, rfl, (fun h => by cases h), hs.below⟩ | exact ⟨_, rfl, (fun h => by have := of_decide_eq_true h; unfold BriefB; omega), hs.below⟩

end Go.Proofs.YtkhahbnagbjbiaaGreat
end
section
/- The laws CircuitBegins, CircuitRests, over this seat's translation (written by ax_ci14.py). -/
namespace Go.Proofs.YtkhahbnagbjbiaaGreat
set_option linter.unusedVariables false
set_option linter.unusedSimpArgs false
open Go.RowKit

end Go.Proofs.YtkhahbnagbjbiaaGreat
end
section
/- The law CircuitLimits, over this seat's translation (written by ax_ci15.py). -/
namespace Go.Proofs.YtkhahbnagbjbiaaGreat
set_option linter.unusedVariables false
set_option linter.unusedSimpArgs false
open Go.RowKit

end Go.Proofs.YtkhahbnagbjbiaaGreat
end
