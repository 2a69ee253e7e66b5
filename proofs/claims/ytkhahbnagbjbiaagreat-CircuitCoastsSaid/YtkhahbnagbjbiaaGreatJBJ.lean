import Derived.Test.YtkhahbnagbjbiaaGreatJAP
import Derived.Test.YtkhahbnagbjbiaaGreatJBI
import Derived.Test.YtkhahbnagbjbiaaGreatRows
import Derived.KernelRfl
import Derived.Laws.StructEq
section
/- Package circuit: Applied, Induced, Quench, over this seat's translation (written by ax_ci20.py). -/
namespace Go.Proofs.YtkhahbnagbjbiaaGreat
set_option linter.unusedVariables false
set_option linter.unusedSimpArgs false
open Go.RowKit

def OutL (w : World) (k : Int) (zs : List Int) (e : Ending) (w' : World) : Prop :=
  ∃ (A : Option Addr) (n c : Nat), e = .returned (.tuple #[.slice A n c, .int .i64 k]) ∧ IsT 1 intCells w' A n (if k = 0 then zs else []) ∧ (∀ b o, A = some ⟨b, o, none⟩ → w.heap.size ≤ b) ∧ n ≤ 1000000 ∧ Below w.heap.size w w'
theorem OutL.bad {w w' : World} {k : Int} {zs : List Int} (hk : k ≠ 0) (hb : Below w.heap.size w w') : OutL w k zs (.returned (.tuple #[.slice none 0 0, .int .i64 k])) w' :=
  ⟨none, 0, 0, rfl, by rw [if_neg hk]; exact ⟨rfl, fun h => absurd h (by omega)⟩, (fun b o e => by cases e), by omega, hb⟩
theorem OutL.ok {w w' : World} {A : Option Addr} {n c : Nat} {zs : List Int} (hN : NewT 1 intCells w.heap.size w' A n c zs) (hn : n ≤ 1000000) (hb : Below w.heap.size w w') : OutL w 0 zs (.returned (.tuple #[.slice A n c, .int .i64 0])) w' :=
  ⟨A, n, c, rfl, by rw [if_pos rfl]; exact hN.isT, hN.new, hn, hb⟩
def quenE (M : MachD) (S : StD) : Int := if validS M S = true then repE S 1 else 1
def dimL (S : StD) : List Int := zerosI S.C.plasma.length
theorem dim_ok {M : MachD} {S : StD} (h : FitS M S) : validPl M (dimL S) = true := by
  have t0 : ∀ k : Nat, tot 0 (List.replicate k 0) = 0 := fun k => by
    induction k with
    | zero => rfl
    | succ k ih => rw [List.replicate_succ]; show tot (wrap64 (0 + 0)) _ = 0; rw [show wrap64 (0 + 0) = 0 from by (first | rfl | simp [wrap64] | (unfold wrap64; rfl))]; exact ih
  refine fitP_iff.2 ⟨h.cur.check, ⟨?_, fun x hx => ?_⟩, ?_⟩
  · simp only [dimL, zerosI, List.length_replicate]; exact h.cur.plasma.1
  · obtain ⟨_, rfl⟩ := List.mem_replicate.1 hx; omega
  · simp only [dimL, zerosI, t0]; omega

theorem kza_bl_apiState_ : ∀ w, (Instr.build 35 #[]).run Tryz.prog w = .ok (.agg #[(.int .i64 0), (.slice none 0 0), (.slice none 0 0), (.slice none 0 0), (.slice none 0 0), (.slice none 0 0)]) w := by
  intro w; simp [Instr.build, Instr.fill, cells_agg, Tryz.runUnderlying35, Tryz.zeroValue35, Tryz.sizeOf3, Tryz.sizeOf30, Tryz.sizeOf32, Tryz.sizeOf33]

theorem kza_bl_apiDrive_0_1 (a0 a1 : Value) (ha0 : a0.oneCell' = true) (ha1 : a1.oneCell' = true) : ∀ w, (Instr.build 37 #[(0, a0), (1, a1)]).run Tryz.prog w = .ok (.agg #[a0, a1]) w := by
  have ea0 : a0.cells = #[a0] := cells_one ha0
  have ea1 : a1.cells = #[a1] := cells_one ha1
  intro w; simp [Instr.build, Instr.fill, cells_agg, Tryz.runUnderlying37, Tryz.zeroValue37, Tryz.sizeOf30, ea0, ea1]

set_option maxRecDepth 100000 in
theorem cquench_any (R : MachR) (M : MachD) (RS : StR) (S : StD) (w : World) (hM : IsM w R M) (hS : IsS w RS S) : Calls Tryz.prog 12 #[(.agg (machCells R M)), (RS.v S.tick)] w (OutS w (quenE M S) (stepD M S (zerosI M.coils.length) (dimL S))) := by
  refine calls_ax (vs := [(.agg (machCells R M)), (RS.v S.tick)]) Tryz.func12 rfl rfl ?_
  refine ac_seq ?_
  refine ac_region ?_
  refine al_new (fun b => .pointer (some ⟨b, 0, none⟩)) (r_box rfl rfl) rfl rfl rfl ?_
  intro b1
  refine al_new (fun b => .pointer (some ⟨b, 0, none⟩)) (r_box rfl rfl) rfl rfl rfl ?_
  intro b2
  refine al_new (fun b => .pointer (some ⟨b, 0, none⟩)) (r_alloc Tryz.zeroValue35 rfl) rfl rfl rfl ?_
  intro b3
  refine al_q (q_assign rfl) rfl rfl rfl ?_
  refine al_end ?_
  refine aq_then ?_
  refine ac_seq ?_
  refine ac_seq ?_
  refine ac_region ?_
  refine al_q (q_loadAll (i := 2) rfl rfl Tryz.isAgg29 Tryz.sizeOf29 rfl) rfl rfl rfl ?_
  refine al_q (q_loadAll (i := 1) rfl rfl Tryz.isAgg35 Tryz.sizeOf35 rfl) rfl rfl rfl ?_
  refine al_call Tryz.call23 (.cons rfl (.cons rfl .nil)) rfl rfl (fun w1 hs1 => ?_)
  refine (validState_any R M RS S _ (hM.below hs1.below) (hS.below hs1.below)).mono ?_
  rintro e u1 ⟨rfl, hb_1⟩
  refine ⟨_, rfl, hb_1, ?_⟩
  clear hs1
  refine al_q (q_not rfl) rfl rfl rfl ?_
  refine al_end ?_
  refine aq_then ?_
  refine ac_cond rfl (fun h1 => ?_) (fun h1 => ?_)
  · have hE : quenE M S = 1 := if_neg (fun h => by rw [h] at h1; cases h1)
    refine ac_seq ?_
    refine ac_region ?_
    refine al_q (q_build .nil (kza_bl_apiState_)) rfl rfl rfl ?_
    refine al_storeAll (i := 0) rfl rfl rfl rfl Tryz.sizeOf35 rfl rfl .k0 rfl ?_
    refine al_q (q_assign rfl) rfl rfl rfl ?_
    refine al_end ?_
    refine aq_then ?_
    refine ac_ret ?_
    refine aq_thenR ?_
    refine retR Tryz.results12 (.agg (i := 0) rfl rfl Tryz.isAgg35 Tryz.sizeOf35 rfl (.tmp rfl .nil)) .two (fun w9 hs => ?_)
    rw [hE]; exact OutS.bad (by decide) ⟨rfl, hs.below⟩
  · have hv : validS M S = true := by simpa using h1
    have hf := fitS_iff.1 hv
    obtain ⟨s1, s2⟩ := smallC hM hf.cur.check
    have s3 := cellN_bd hf.cur.check
    have s4 := hf.cur.plasma.1
    have s5 := hS.cur.plasma.1
    have s6 : RS.Q.lc ≤ 64 := by unfold cellN at s3; omega
    have hE : quenE M S = repE S 1 := if_pos hv
    refine ac_skip ?_
    refine aq_then ?_
    refine ac_seq ?_
    refine ac_drawK 1 16 rfl (by kernel_rfl) (by kernel_rfl) ?_
    refine ah_take 0 (fun w9 hs => (hs.tail 1 rfl)) rfl rfl rfl (by kernel_rfl) (by kernel_rfl) (by kernel_rfl) (fun _ _ _ h => h) rfl (q_loadAll (i := 1) rfl rfl Tryz.isAgg29 Tryz.sizeOf29 rfl) ?_
    refine ah_take 1 (fun w9 hs => (hs.tail 1 rfl)) rfl rfl rfl (by kernel_rfl) (by kernel_rfl) (by kernel_rfl) (fun _ _ _ h => h) rfl (q_loadAll (i := 0) rfl rfl Tryz.isAgg35 Tryz.sizeOf35 rfl) ?_
    refine ah_take 2 (fun w9 hs => (hs.tail 1 rfl)) rfl rfl rfl (by kernel_rfl) (by kernel_rfl) (by kernel_rfl) (fun _ _ _ h => h) rfl (q_fieldAddr 1 rfl Tryz.runUnderlying29 rfl Tryz.sizeOf22 (by decide) rfl) ?_
    refine ah_take 3 (fun w9 hs => (hs.tail 1 rfl)) rfl rfl rfl (by kernel_rfl) (by kernel_rfl) (by kernel_rfl) (fun _ _ _ h => h) rfl (q_load (i := 1) rfl rfl rfl Tryz.isAgg22) ?_
    refine ah_take 4 (fun w9 hs => (hs.tail 1 rfl)) rfl rfl rfl (by kernel_rfl) (by kernel_rfl) (by kernel_rfl) (fun _ _ _ h => h) rfl (q_lenS rfl Tryz.runUnderlying22) ?_
    refine ah_take 6 (fun w9 hs => (hs.tail 1 rfl)) rfl rfl rfl (by kernel_rfl) (by kernel_rfl) (by kernel_rfl) (fun _ _ _ h => h) rfl (q_fieldAddr 1 rfl Tryz.runUnderlying35 rfl Tryz.sizeOf32 (by decide) rfl) ?_
    refine ah_take 7 (fun w9 hs => (hs.tail 1 rfl)) rfl rfl rfl (by kernel_rfl) (by kernel_rfl) (by kernel_rfl) (fun _ _ _ h => h) rfl (q_fieldAddr 3 rfl Tryz.runUnderlying32 rfl Tryz.sizeOf30 (by decide) rfl) ?_
    refine ah_take 8 (fun w9 hs => (hs.tail 1 rfl)) rfl rfl rfl (by kernel_rfl) (by kernel_rfl) (by kernel_rfl) (fun _ _ _ h => h) rfl (q_load (i := 0) rfl rfl rfl Tryz.isAgg30) ?_
    refine ah_take 9 (fun w9 hs => (hs.tail 1 rfl)) rfl rfl rfl (by kernel_rfl) (by kernel_rfl) (by kernel_rfl) (fun _ _ _ h => h) rfl (q_lenS rfl Tryz.runUnderlying30) ?_
    refine ah_two 5 10 rfl rfl  (by kernel_rfl) (fun hok1 hcl1 => ?_) (fun hok1 hcl1 => ?_)
    · refine al_makeInts (n := R.la) (z := (.int .i64 0)) (bytes := 8) rfl rfl rfl Tryz.underlying30 (by kernel_rfl) rfl (by omega) (by decide) rfl rfl ?_
      intro b4
      refine al_end (ah_back hok1 hcl1 (fun w9 hs => (hs.tail 2 rfl)) ?_)
      refine ah_one 10 rfl (by kernel_rfl) (fun hok2 hcl2 => ?_)
      refine al_makeInts (n := RS.Q.lc) (z := (.int .i64 0)) (bytes := 8) rfl rfl rfl Tryz.underlying30 (by kernel_rfl) rfl (by omega) (by decide) rfl rfl ?_
      intro b5
      refine al_end (ah_back hok2 hcl2 (fun w9 hs => (hs.tail 3 rfl)) ?_)
      refine ah_take 11 (fun w9 hs => (hs.tail 3 rfl)) rfl rfl rfl (by kernel_rfl) (by kernel_rfl) (by kernel_rfl) (fun _ _ _ h => h) rfl (q_build (.cons rfl (.cons rfl .nil)) (kza_bl_apiDrive_0_1 _ _ rfl rfl)) ?_
      refine ah_one 12 rfl (by kernel_rfl) (fun hok3 hcl3 => ?_)
      refine al_call Tryz.call25 (.cons rfl (.cons rfl (.cons rfl (.cons rfl .nil)))) rfl rfl (fun w2 hs2 => ?_)
      have hz := hs2.below.size
      refine (repeat_any R M RS S (some ⟨b4, 0, none⟩) (some ⟨b5, 0, none⟩) R.la R.la RS.Q.lc RS.Q.lc (zerosI M.coils.length) (dimL S) 1 _ (hM.below hs2.below) (hS.below hs2.below) hf (isT_box0 (n := 1) (enc := intCells) (fun _ => rfl) (hs2.at 1 rfl) (by rw [hM.coils.1]; exact flatZ R.la) (by simp [zerosI, hM.coils.1])) (isT_box0 (n := 1) (enc := intCells) (fun _ => rfl) (hs2.at 0 rfl) (by unfold dimL; rw [hS.cur.plasma.1]; exact flatZ RS.Q.lc) (by simp [dimL, zerosI, hS.cur.plasma.1])) (fitD_of zero_ch (dim_ok hf))).mono ?_
      rintro e u2 ⟨x9, n9, rfl, k1_, k2_, hb_2⟩
      refine ⟨_, rfl, hb_2, ?_⟩
      clear hs2
      refine al_end (ah_back hok3 hcl3 (fun w9 hs => ((hs.fewer 1 rfl).tail 3 rfl)) ?_)
      refine ah_take 13 (fun w9 hs => ((hs.fewer 1 rfl).tail 3 rfl)) rfl rfl rfl (by kernel_rfl) (by kernel_rfl) (by kernel_rfl) (fun _ _ _ h => h) rfl (q_extract rfl rfl) ?_
      refine ah_take 14 (fun w9 hs => ((hs.fewer 1 rfl).tail 3 rfl)) rfl rfl rfl (by kernel_rfl) (by kernel_rfl) (by kernel_rfl) (fun _ _ _ h => h) rfl (q_extract rfl rfl) ?_
      refine ah_one 15 rfl (by kernel_rfl) (fun hok4 hcl4 => ?_)
      refine al_storeAll (i := 2) rfl rfl rfl rfl Tryz.sizeOf35 rfl rfl .k2 rfl ?_
      refine al_end (ah_back hok4 hcl4 (fun w9 hs => ((hs.fewer 1 rfl).tail 3 rfl)) ?_)
      refine ah_one 16 rfl (by kernel_rfl) (fun hok5 hcl5 => ?_)
      refine al_q (q_assign rfl) rfl rfl rfl ?_
      refine al_end (ah_last (by kernel_rfl) ?_)
      refine aq_then ?_
      refine ac_ret ?_
      refine retR Tryz.results12 (.agg (i := 2) rfl rfl Tryz.isAgg35 Tryz.sizeOf35 rfl (.tmp rfl .nil)) .two (fun w9 hs => ?_)
      rw [hE]; exact outS_late hs (.head _) hz hs.below k1_ k2_
    · refine al_makeInts (n := RS.Q.lc) (z := (.int .i64 0)) (bytes := 8) rfl rfl rfl Tryz.underlying30 (by kernel_rfl) rfl (by omega) (by decide) rfl rfl ?_
      intro b6
      refine al_end (ah_back hok1 hcl1 (fun w9 hs => (hs.tail 2 rfl)) ?_)
      refine ah_one 5 rfl (by kernel_rfl) (fun hok6 hcl6 => ?_)
      refine al_makeInts (n := R.la) (z := (.int .i64 0)) (bytes := 8) rfl rfl rfl Tryz.underlying30 (by kernel_rfl) rfl (by omega) (by decide) rfl rfl ?_
      intro b7
      refine al_end (ah_back hok6 hcl6 (fun w9 hs => (hs.tail 3 rfl)) ?_)
      refine ah_take 11 (fun w9 hs => (hs.tail 3 rfl)) rfl rfl rfl (by kernel_rfl) (by kernel_rfl) (by kernel_rfl) (fun _ _ _ h => h) rfl (q_build (.cons rfl (.cons rfl .nil)) (kza_bl_apiDrive_0_1 _ _ rfl rfl)) ?_
      refine ah_one 12 rfl (by kernel_rfl) (fun hok7 hcl7 => ?_)
      refine al_call Tryz.call25 (.cons rfl (.cons rfl (.cons rfl (.cons rfl .nil)))) rfl rfl (fun w3 hs3 => ?_)
      have hz := hs3.below.size
      refine (repeat_any R M RS S (some ⟨b7, 0, none⟩) (some ⟨b6, 0, none⟩) R.la R.la RS.Q.lc RS.Q.lc (zerosI M.coils.length) (dimL S) 1 _ (hM.below hs3.below) (hS.below hs3.below) hf (isT_box0 (n := 1) (enc := intCells) (fun _ => rfl) (hs3.at 0 rfl) (by rw [hM.coils.1]; exact flatZ R.la) (by simp [zerosI, hM.coils.1])) (isT_box0 (n := 1) (enc := intCells) (fun _ => rfl) (hs3.at 1 rfl) (by unfold dimL; rw [hS.cur.plasma.1]; exact flatZ RS.Q.lc) (by simp [dimL, zerosI, hS.cur.plasma.1])) (fitD_of zero_ch (dim_ok hf))).mono ?_
      rintro e u3 ⟨x9, n9, rfl, k1_, k2_, hb_3⟩
      refine ⟨_, rfl, hb_3, ?_⟩
      clear hs3
      refine al_end (ah_back hok7 hcl7 (fun w9 hs => ((hs.fewer 1 rfl).tail 3 rfl)) ?_)
      refine ah_take 13 (fun w9 hs => ((hs.fewer 1 rfl).tail 3 rfl)) rfl rfl rfl (by kernel_rfl) (by kernel_rfl) (by kernel_rfl) (fun _ _ _ h => h) rfl (q_extract rfl rfl) ?_
      refine ah_take 14 (fun w9 hs => ((hs.fewer 1 rfl).tail 3 rfl)) rfl rfl rfl (by kernel_rfl) (by kernel_rfl) (by kernel_rfl) (fun _ _ _ h => h) rfl (q_extract rfl rfl) ?_
      refine ah_one 15 rfl (by kernel_rfl) (fun hok8 hcl8 => ?_)
      refine al_storeAll (i := 2) rfl rfl rfl rfl Tryz.sizeOf35 rfl rfl .k2 rfl ?_
      refine al_end (ah_back hok8 hcl8 (fun w9 hs => ((hs.fewer 1 rfl).tail 3 rfl)) ?_)
      refine ah_one 16 rfl (by kernel_rfl) (fun hok9 hcl9 => ?_)
      refine al_q (q_assign rfl) rfl rfl rfl ?_
      refine al_end (ah_last (by kernel_rfl) ?_)
      refine aq_then ?_
      refine ac_ret ?_
      refine retR Tryz.results12 (.agg (i := 2) rfl rfl Tryz.isAgg35 Tryz.sizeOf35 rfl (.tmp rfl .nil)) .two (fun w9 hs => ?_)
      rw [hE]; exact outS_late hs (.head _) hz hs.below k1_ k2_

end Go.Proofs.YtkhahbnagbjbiaaGreat
end
section
/- Settle on both sides, over this seat's translation (written by ax_ci16.py). -/
namespace Go.Proofs.YtkhahbnagbjbiaaGreat
set_option linter.unusedVariables false
set_option linter.unusedSimpArgs false
open Go.RowKit

theorem lost_p {n m : Int} (hn : -1000000 ≤ n ∧ n ≤ 1000000) (hm : 1 ≤ m ∧ m ≤ 1000) : 0 ≤ max n (-n) * m ∧ max n (-n) * m ≤ 1000000000 ∧ max n (-n) * m ≤ max n (-n) * 1000 := by
  have h0 : 0 ≤ max n (-n) ∧ max n (-n) ≤ 1000000 := by omega
  have h1 := mulP_bd (x := max n (-n)) (y := m) (X := 1000000) (Y := 1000) h0 ⟨by omega, by omega⟩
  exact ⟨Int.mul_nonneg h0.1 (by omega), by omega, Int.mul_le_mul_of_nonneg_left hm.2 h0.1⟩
theorem lost_in {n m : Int} (hn : -1000000 ≤ n ∧ n ≤ 1000000) (hm : 1 ≤ m ∧ m ≤ 1000) : -1000000 ≤ n - lostI n m ∧ n - lostI n m ≤ 1000000 ∧ -1000000 ≤ lostI n m ∧ lostI n m ≤ 1000000 := by
  have := lost_bd (cur := n) hm
  omega

set_option maxRecDepth 100000 in
theorem rsize3_any (n : Int) (w : World) (hn : -1000000 ≤ n ∧ n ≤ 1000000) : Calls Tryz.prog 46 #[(.int .i64 n)] w (Ret (.int .i64 (max n (-n))) w) := by
  refine calls_ax (vs := [(.int .i64 n)]) Tryz.func46 rfl rfl ?_
  refine ac_seq ?_
  refine ac_region ?_
  refine al_q (q_assign rfl) rfl rfl rfl ?_
  refine al_end ?_
  refine aq_then ?_
  refine ac_seq ?_
  refine ac_seq ?_
  refine ac_region ?_
  refine al_q (q_move rfl) rfl rfl rfl ?_
  refine al_q (q_lss rfl rfl) rfl rfl rfl ?_
  refine al_end ?_
  refine aq_then ?_
  refine ac_cond rfl (fun h1 => ?_) (fun h1 => ?_)
  · have g1 := of_decide_eq_true h1
    have e1 : max n (-n) = -n := by omega
    refine ac_seq ?_
    refine ac_region ?_
    refine al_q (q_move rfl) rfl rfl rfl ?_
    refine al_q (q_neg rfl (by omega)) rfl rfl rfl ?_
    refine al_q (q_assign rfl) rfl rfl rfl ?_
    refine al_end ?_
    refine aq_then ?_
    refine ac_ret ?_
    refine aq_thenR ?_
    refine ret1 Tryz.results46 rfl (fun w9 hs => ?_)
    rw [e1]; exact ⟨rfl, hs.below⟩
  · have g1 := of_decide_eq_false h1
    have e1 : max n (-n) = n := by omega
    refine ac_skip ?_
    refine aq_then ?_
    refine ac_seq ?_
    refine ac_region ?_
    refine al_q (q_move rfl) rfl rfl rfl ?_
    refine al_q (q_assign rfl) rfl rfl rfl ?_
    refine al_end ?_
    refine aq_then ?_
    refine ac_ret ?_
    refine ret1 Tryz.results46 rfl (fun w9 hs => ?_)
    rw [e1]; exact ⟨rfl, hs.below⟩

set_option maxRecDepth 100000 in
theorem rlost3_any (n m : Int) (w : World) (hn : -1000000 ≤ n ∧ n ≤ 1000000) (hm : 1 ≤ m ∧ m ≤ 1000) : Calls Tryz.prog 60 #[(.int .i64 n), (.int .i64 m)] w (Ret (.int .i64 (lostI n m)) w) := by
  obtain ⟨p1, p2, p3⟩ := lost_p hn hm
  have he : max n (-n) * m + 1000 - 1 = max n (-n) * m + 999 := by omega
  have hq : 0 ≤ (max n (-n) * m + 999).tdiv 1000 ∧ (max n (-n) * m + 999).tdiv 1000 ≤ max n (-n) := by rw [Int.tdiv_eq_ediv_of_nonneg (by omega)]; omega
  refine calls_ax (vs := [(.int .i64 n), (.int .i64 m)]) Tryz.func60 rfl rfl ?_
  refine ac_seq ?_
  refine ac_region ?_
  refine al_q (q_assign rfl) rfl rfl rfl ?_
  refine al_end ?_
  refine aq_then ?_
  refine ac_seq ?_
  refine ac_region ?_
  refine al_q (q_move rfl) rfl rfl rfl ?_
  refine al_call Tryz.call46 (.cons rfl .nil) rfl rfl (fun w1 hs1 => ?_)
  refine (rsize3_any n _ hn).mono ?_
  rintro e u1 ⟨rfl, hb_1⟩
  refine ⟨_, rfl, hb_1, ?_⟩
  clear hs1
  refine al_q (q_move rfl) rfl rfl rfl ?_
  refine al_q (q_mul rfl rfl (by omega)) rfl rfl rfl ?_
  refine al_q (q_add rfl rfl (by omega)) rfl rfl rfl ?_
  refine al_q (q_quo rfl rfl (by omega)) rfl rfl rfl ?_
  refine al_q (q_assign rfl) rfl rfl rfl ?_
  refine al_end ?_
  refine aq_then ?_
  refine ac_seq ?_
  refine ac_seq ?_
  refine ac_region ?_
  refine al_q (q_move rfl) rfl rfl rfl ?_
  refine al_q (q_move rfl) rfl rfl rfl ?_
  refine al_call Tryz.call46 (.cons rfl .nil) rfl rfl (fun w2 hs2 => ?_)
  refine (rsize3_any n _ hn).mono ?_
  rintro e u2 ⟨rfl, hb_2⟩
  refine ⟨_, rfl, hb_2, ?_⟩
  clear hs2
  refine al_q (q_gtr rfl rfl) rfl rfl rfl ?_
  refine al_end ?_
  refine aq_then ?_
  refine ac_cond rfl (fun h1 => ?_) (fun h1 => ?_)
  · exfalso; have := of_decide_eq_true h1; omega
  · skip
    refine ac_skip ?_
    refine aq_then ?_
    refine ac_seq ?_
    refine ac_seq ?_
    refine ac_region ?_
    refine al_q (q_move rfl) rfl rfl rfl ?_
    refine al_q (q_lss rfl rfl) rfl rfl rfl ?_
    refine al_end ?_
    refine aq_then ?_
    refine ac_cond rfl (fun h2 => ?_) (fun h2 => ?_)
    · refine ac_seq ?_
      refine ac_region ?_
      refine al_q (q_move rfl) rfl rfl rfl ?_
      refine al_q (q_neg rfl (by omega)) rfl rfl rfl ?_
      refine al_q (q_assign rfl) rfl rfl rfl ?_
      refine al_end ?_
      refine aq_then ?_
      refine ac_ret ?_
      refine aq_thenR ?_
      refine ret1 Tryz.results60 rfl (fun w9 hs => ?_)
      exact ⟨by rw [lostI, if_pos (by have := of_decide_eq_true h2; omega), he], hs.below⟩
    · refine ac_skip ?_
      refine aq_then ?_
      refine ac_seq ?_
      refine ac_region ?_
      refine al_q (q_move rfl) rfl rfl rfl ?_
      refine al_q (q_assign rfl) rfl rfl rfl ?_
      refine al_end ?_
      refine aq_then ?_
      refine ac_ret ?_
      refine ret1 Tryz.results60 rfl (fun w9 hs => ?_)
      exact ⟨by rw [lostI, if_neg (by have := of_decide_eq_false h2; omega), he], hs.below⟩

end Go.Proofs.YtkhahbnagbjbiaaGreat
end
section
/- The mirrored tick, as plain functions, over this seat's translation (written by ax_ci18.py). -/
namespace Go.Proofs.YtkhahbnagbjbiaaGreat
set_option linter.unusedVariables false
set_option linter.unusedSimpArgs false
open Go.RowKit

theorem iA_eq (l : List Int) (k : Nat) : iA l k = l[k]?.getD 0 := by simp [iA, List.getD_eq_getElem?_getD]
theorem iA_app {co ce : List Int} (k : Nat) : iA (co ++ ce) (co.length + k) = iA ce k := by
  rw [iA_eq, iA_eq, List.getElem?_append_right (by omega), Nat.add_sub_cancel_left]
theorem iA_left {co ce : List Int} {k : Nat} (h : k < co.length) : iA (co ++ ce) k = iA co k := by
  rw [iA_eq, iA_eq, List.getElem?_append_left h]
end Go.Proofs.YtkhahbnagbjbiaaGreat
end
