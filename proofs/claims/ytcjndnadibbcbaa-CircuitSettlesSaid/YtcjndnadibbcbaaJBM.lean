import Derived.Test.YtcjndnadibbcbaaJBG
import Derived.Test.YtcjndnadibbcbaaJBK
import Derived.Test.YtcjndnadibbcbaaRows
import Derived.KernelRfl
import Derived.Laws.StructEq
section
/- Settle on both sides, over this seat's translation (written by ax_ci16.py). -/
namespace Go.Proofs.Ytcjndnadibbcbaa
set_option linter.unusedVariables false
set_option linter.unusedSimpArgs false
open Go.RowKit

def setF (loss : Int) : Nat → Int → Int
  | 0, _ => 0
  | n + 1, c => if c = 0 then 0 else 1 + setF loss n (c - lostI c loss)
def setI (loss c : Int) : Int := setF loss c.natAbs c
theorem lost_less {c loss : Int} (hl : 1 ≤ loss ∧ loss ≤ 1000) (h : c ≠ 0) : (c - lostI c loss).natAbs < c.natAbs := by
  have := lost_bd (cur := c) hl
  omega
theorem setF_eq {loss : Int} (hl : 1 ≤ loss ∧ loss ≤ 1000) : ∀ (n : Nat) (c : Int), c.natAbs ≤ n → ∀ m, c.natAbs ≤ m → setF loss n c = setF loss m c
  | 0, c, h, m, hm => by
    obtain rfl : c = 0 := by omega
    cases m with
    | zero => rfl
    | succ m => simp [setF]
  | n + 1, c, h, m, hm => by
    by_cases h0 : c = 0
    · subst h0
      cases m with
      | zero => simp [setF]
      | succ m => simp [setF]
    · have := lost_less hl h0
      cases m with
      | zero => omega
      | succ m =>
        simp only [setF, if_neg h0]
        rw [setF_eq hl n _ (by omega) m (by omega)]
theorem setI_zero (loss : Int) : setI loss 0 = 0 := rfl
theorem setI_step {loss c : Int} (hl : 1 ≤ loss ∧ loss ≤ 1000) (h : c ≠ 0) : setI loss c = 1 + setI loss (c - lostI c loss) := by
  have h1 := lost_less hl h
  have h2 : setI loss c = setF loss ((c.natAbs - 1) + 1) c := setF_eq hl _ _ (Nat.le_refl _) _ (by omega)
  rw [h2]; simp only [setF, if_neg h]
  rw [setF_eq hl (c.natAbs - 1) (c - lostI c loss) (by omega) _ (Nat.le_refl _)]; rfl
theorem setF_bd {loss : Int} : ∀ (n : Nat) (c : Int), 0 ≤ setF loss n c ∧ setF loss n c ≤ n
  | 0, c => by simp [setF]
  | n + 1, c => by
    simp only [setF]
    split
    · omega
    · have := setF_bd (loss := loss) n (c - lostI c loss); omega
theorem setI_bd {loss c : Int} : 0 ≤ setI loss c ∧ setI loss c ≤ c.natAbs := setF_bd _ _
theorem lost_p {n m : Int} (hn : -1000000 ≤ n ∧ n ≤ 1000000) (hm : 1 ≤ m ∧ m ≤ 1000) : 0 ≤ max n (-n) * m ∧ max n (-n) * m ≤ 1000000000 ∧ max n (-n) * m ≤ max n (-n) * 1000 := by
  have h0 : 0 ≤ max n (-n) ∧ max n (-n) ≤ 1000000 := by omega
  have h1 := mulP_bd (x := max n (-n)) (y := m) (X := 1000000) (Y := 1000) h0 ⟨by omega, by omega⟩
  exact ⟨Int.mul_nonneg h0.1 (by omega), by omega, Int.mul_le_mul_of_nonneg_left hm.2 h0.1⟩
def setA (M : MachD) (S : StD) (k : Nat) : Int := setI (sA M k).loss (iA S.C.shells k)
def settleL (M : MachD) (S : StD) : Int × Int := if validS M S = true then (maxTo (setA M S) M.shells.length, 0) else (0, 1)
theorem lost_in {n m : Int} (hn : -1000000 ≤ n ∧ n ≤ 1000000) (hm : 1 ≤ m ∧ m ≤ 1000) : -1000000 ≤ n - lostI n m ∧ n - lostI n m ≤ 1000000 ∧ -1000000 ≤ lostI n m ∧ lostI n m ≤ 1000000 := by
  have := lost_bd (cur := n) hm
  omega

set_option maxRecDepth 100000 in
theorem rsize3_any (n : Int) (w : World) (hn : -1000000 ≤ n ∧ n ≤ 1000000) : Calls Try.prog 83 #[(.int .i64 n)] w (Ret (.int .i64 (max n (-n))) w) := by
  refine calls_ax (vs := [(.int .i64 n)]) Try.func83 rfl rfl ?_
  refine ac_seq ?_
  refine ac_region ?_
  refine al_q (q_assign rfl) rfl rfl rfl ?_
  refine al_end ?_
  refine aq_then ?_
  refine ac_seq ?_
  refine ac_seq ?_
  refine ac_region ?_
  refine al_q (q_move rfl) rfl rfl rfl ?_
  refine al_q (q_lss rfl rfl) rfl rfl rfl ?_
  refine al_end ?_
  refine aq_then ?_
  refine ac_cond rfl (fun h1 => ?_) (fun h1 => ?_)
  · have g1 := of_decide_eq_true h1
    have e1 : max n (-n) = -n := by omega
    refine ac_seq ?_
    refine ac_region ?_
    refine al_q (q_move rfl) rfl rfl rfl ?_
    refine al_q (q_neg rfl (by omega)) rfl rfl rfl ?_
    refine al_q (q_assign rfl) rfl rfl rfl ?_
    refine al_end ?_
    refine aq_then ?_
    refine ac_ret ?_
    refine aq_thenR ?_
    refine ret1 Try.results83 rfl (fun w9 hs => ?_)
    rw [e1]; exact ⟨rfl, hs.below⟩
  · have g1 := of_decide_eq_false h1
    have e1 : max n (-n) = n := by omega
    refine ac_skip ?_
    refine aq_then ?_
    refine ac_seq ?_
    refine ac_region ?_
    refine al_q (q_move rfl) rfl rfl rfl ?_
    refine al_q (q_assign rfl) rfl rfl rfl ?_
    refine al_end ?_
    refine aq_then ?_
    refine ac_ret ?_
    refine ret1 Try.results83 rfl (fun w9 hs => ?_)
    rw [e1]; exact ⟨rfl, hs.below⟩

set_option maxRecDepth 100000 in
theorem rlost3_any (n m : Int) (w : World) (hn : -1000000 ≤ n ∧ n ≤ 1000000) (hm : 1 ≤ m ∧ m ≤ 1000) : Calls Try.prog 50 #[(.int .i64 n), (.int .i64 m)] w (Ret (.int .i64 (lostI n m)) w) := by
  obtain ⟨p1, p2, p3⟩ := lost_p hn hm
  have he : max n (-n) * m + 1000 - 1 = max n (-n) * m + 999 := by omega
  have hq : 0 ≤ (max n (-n) * m + 999).tdiv 1000 ∧ (max n (-n) * m + 999).tdiv 1000 ≤ max n (-n) := by rw [Int.tdiv_eq_ediv_of_nonneg (by omega)]; omega
  refine calls_ax (vs := [(.int .i64 n), (.int .i64 m)]) Try.func50 rfl rfl ?_
  refine ac_seq ?_
  refine ac_region ?_
  refine al_q (q_assign rfl) rfl rfl rfl ?_
  refine al_end ?_
  refine aq_then ?_
  refine ac_seq ?_
  refine ac_region ?_
  refine al_q (q_move rfl) rfl rfl rfl ?_
  refine al_call Try.call83 (.cons rfl .nil) rfl rfl (fun w1 hs1 => ?_)
  refine (rsize3_any n _ hn).mono ?_
  rintro e u1 ⟨rfl, hb_1⟩
  refine ⟨_, rfl, hb_1, ?_⟩
  clear hs1
  refine al_q (q_move rfl) rfl rfl rfl ?_
  refine al_q (q_mul rfl rfl (by omega)) rfl rfl rfl ?_
  refine al_q (q_add rfl rfl (by omega)) rfl rfl rfl ?_
  refine al_q (q_quo rfl rfl (by omega)) rfl rfl rfl ?_
  refine al_q (q_assign rfl) rfl rfl rfl ?_
  refine al_end ?_
  refine aq_then ?_
  refine ac_seq ?_
  refine ac_seq ?_
  refine ac_region ?_
  refine al_q (q_move rfl) rfl rfl rfl ?_
  refine al_q (q_move rfl) rfl rfl rfl ?_
  refine al_call Try.call83 (.cons rfl .nil) rfl rfl (fun w2 hs2 => ?_)
  refine (rsize3_any n _ hn).mono ?_
  rintro e u2 ⟨rfl, hb_2⟩
  refine ⟨_, rfl, hb_2, ?_⟩
  clear hs2
  refine al_q (q_gtr rfl rfl) rfl rfl rfl ?_
  refine al_end ?_
  refine aq_then ?_
  refine ac_cond rfl (fun h1 => ?_) (fun h1 => ?_)
  · exfalso; have := of_decide_eq_true h1; omega
  · skip
    refine ac_skip ?_
    refine aq_then ?_
    refine ac_seq ?_
    refine ac_seq ?_
    refine ac_region ?_
    refine al_q (q_move rfl) rfl rfl rfl ?_
    refine al_q (q_lss rfl rfl) rfl rfl rfl ?_
    refine al_end ?_
    refine aq_then ?_
    refine ac_cond rfl (fun h2 => ?_) (fun h2 => ?_)
    · refine ac_seq ?_
      refine ac_region ?_
      refine al_q (q_move rfl) rfl rfl rfl ?_
      refine al_q (q_neg rfl (by omega)) rfl rfl rfl ?_
      refine al_q (q_assign rfl) rfl rfl rfl ?_
      refine al_end ?_
      refine aq_then ?_
      refine ac_ret ?_
      refine aq_thenR ?_
      refine ret1 Try.results50 rfl (fun w9 hs => ?_)
      exact ⟨by rw [lostI, if_pos (by have := of_decide_eq_true h2; omega), he], hs.below⟩
    · refine ac_skip ?_
      refine aq_then ?_
      refine ac_seq ?_
      refine ac_region ?_
      refine al_q (q_move rfl) rfl rfl rfl ?_
      refine al_q (q_assign rfl) rfl rfl rfl ?_
      refine al_end ?_
      refine aq_then ?_
      refine ac_ret ?_
      refine ret1 Try.results50 rfl (fun w9 hs => ?_)
      exact ⟨by rw [lostI, if_neg (by have := of_decide_eq_false h2; omega), he], hs.below⟩

set_option maxRecDepth 100000 in
theorem csettle_any (R : MachR) (M : MachD) (RS : StR) (S : StD) (w : World) (hM : IsM w R M) (hS : IsS w RS S) : Calls Try.prog 23 #[(.agg (machCells R M)), (RS.v S.tick)] w (Ret (.tuple #[.int .i64 (settleL M S).1, .int .i64 (settleL M S).2]) w) := by
  have n1 := hM.shells.1
  refine calls_ax (vs := [(.agg (machCells R M)), (RS.v S.tick)]) Try.func23 rfl rfl ?_
  refine ac_seq ?_
  refine ac_region ?_
  refine al_new (fun b => .pointer (some ⟨b, 0, none⟩)) (r_box rfl rfl) rfl rfl rfl ?_
  intro b1
  refine al_new (fun b => .pointer (some ⟨b, 0, none⟩)) (r_box rfl rfl) rfl rfl rfl ?_
  intro b2
  refine al_q (q_assign rfl) rfl rfl rfl ?_
  refine al_q (q_assign rfl) rfl rfl rfl ?_
  refine al_end ?_
  refine aq_then ?_
  refine ac_seq ?_
  refine ac_seq ?_
  refine ac_region ?_
  refine al_q (q_loadAll (i := 1) rfl rfl Try.isAgg29 Try.sizeOf29 rfl) rfl rfl rfl ?_
  refine al_q (q_loadAll (i := 0) rfl rfl Try.isAgg35 Try.sizeOf35 rfl) rfl rfl rfl ?_
  refine al_call Try.call13 (.cons rfl (.cons rfl .nil)) rfl rfl (fun w1 hs1 => ?_)
  refine (validState_any R M RS S _ (hM.below hs1.below) (hS.below hs1.below)).mono ?_
  rintro e u1 ⟨rfl, hb_1⟩
  refine ⟨_, rfl, hb_1, ?_⟩
  clear hs1
  refine al_q (q_not rfl) rfl rfl rfl ?_
  refine al_end ?_
  refine aq_then ?_
  refine ac_cond rfl (fun h1 => ?_) (fun h1 => ?_)
  · have hE : settleL M S = (0, 1) := if_neg (fun h => by rw [h] at h1; cases h1)
    refine ac_seq ?_
    refine ac_region ?_
    refine al_q (q_assign rfl) rfl rfl rfl ?_
    refine al_q (q_assign rfl) rfl rfl rfl ?_
    refine al_end ?_
    refine aq_then ?_
    refine ac_ret ?_
    refine aq_thenR ?_
    refine ret2 Try.results23 rfl rfl (fun w9 hs => ?_)
    rw [hE]; exact ⟨rfl, hs.below⟩
  · have hv : validS M S = true := by simpa using h1
    have hf := fitS_iff.1 hv
    have n5 := (sound_of hf.cur.check).shells.1
    have n6 := hf.cur.shells.1
    have n7 := hS.cur.shells.1
    refine ac_skip ?_
    refine aq_then ?_
    refine ac_seq ?_
    refine ac_region ?_
    refine al_q (q_assign rfl) rfl rfl rfl ?_
    refine al_end ?_
    refine aq_then ?_
    refine ac_seq ?_
    refine ac_seq ?_
    refine ac_region ?_
    refine al_q (q_fieldAddr 2 rfl Try.runUnderlying29 rfl Try.sizeOf23 (by decide) rfl) rfl rfl rfl ?_
    refine al_q (q_load (i := 1) rfl rfl rfl Try.isAgg23) rfl rfl rfl ?_
    refine al_q (q_lenS rfl Try.runUnderlying23) rfl rfl rfl ?_
    refine al_q (q_move rfl) rfl rfl rfl ?_
    refine al_end ?_
    refine aq_then ?_
    refine ac_block ?_
    refine ac_loop (β := Nat) (fun x => x ≤ R.lb ∧ 0 ≤ maxTo (setA M S) x ∧ maxTo (setA M S) x ≤ 1000000) (fun x => [(3, (.pointer (some ⟨b2, 0, none⟩))), (4, (.int .i64 0)), (5, (.int .i64 0)), (6, (.int .i64 (maxTo (setA M S) x))), (16, (.slice (R.B) R.lb R.cb)), (17, (.int .i64 (R.lb : Int))), (18, (.int .i64 (x : Int)))]) (fun _ => _) (fun x => [(b2, _), (b1, _)]) (fun x => R.lb - x) 0 ⟨by omega, by simp [maxTo], by simp [maxTo]⟩ ⟨rfl, rfl, rfl, rfl, rfl, rfl, rfl, trivial⟩ (fun w9 hs => hs) (fun x hF1 => ?_)
    refine ac_seq ?_
    refine ac_region ?_
    refine al_q (q_lss rfl rfl) rfl rfl rfl ?_
    refine al_end ?_
    refine aq_then ?_
    refine ac_seq ?_
    refine ac_cond rfl (fun h2 => ?_) (fun h2 => ?_)
    · have hxl : x < R.lb := by have := of_decide_eq_true h2; omega
      obtain ⟨b11, o11, hA1, hlt1, hget1⟩ := hM.shells.2 (by omega)
      have hx1 := sA_get (M := M) (k := x) (by omega)
      obtain ⟨b21, o21, hA2, hlt2, hget2⟩ := hS.cur.shells.2 (by omega)
      have hx2 := iA_get (l := S.C.shells) (k := x) (by omega)
      have q1 := (sA_ok hf.cur.check (k := x) (by omega)).loss
      have q2 := hf.cur.shells.2 _ (List.mem_of_getElem? hx2)
      have q3 := setI_bd (loss := (sA M x).loss) (c := iA S.C.shells x)
      have q4 : 0 ≤ setA M S x ∧ setA M S x ≤ 1000000 := by unfold setA; omega
      refine ac_skip ?_
      refine aq_then ?_
      refine ac_seq ?_
      refine ac_block ?_
      refine ac_seq ?_
      refine ac_region ?_
      refine al_q (q_move rfl) rfl rfl rfl ?_
      refine al_q (q_indexAddrA (i := x) (o11 + x * 4 + 0) hA1 rfl rfl rfl (by omega) Try.runUnderlying23 Try.sizeOf84 rfl) rfl rfl rfl ?_
      refine al_q (q_loadXs (ShellD.cells (sA M x)) rfl Try.isAgg84 Try.sizeOf84 (fun w9 hs j9 v9 h9 => by rw [addr_add]; exact (hs.below.cell (p := ⟨_, _, none⟩) hlt1).trans ((hget1 x _ hx1) j9 v9 h9)) rfl) rfl rfl rfl ?_
      refine al_new (fun b => .pointer (some ⟨b, 0, none⟩)) (r_alloc Try.zeroValue84 rfl) rfl rfl rfl ?_
      intro b3
      refine al_q (q_assign rfl) rfl rfl rfl ?_
      refine al_storeAll (i := 0) rfl rfl rfl rfl Try.sizeOf84 rfl rfl .k0 rfl ?_
      refine al_end ?_
      refine aq_then ?_
      refine ac_seq ?_
      refine ac_region ?_
      refine al_q (q_assign rfl) rfl rfl rfl ?_
      refine al_end ?_
      refine aq_then ?_
      refine ac_seq ?_
      refine ac_seq ?_
      refine ac_region ?_
      refine al_q (q_fieldAddr 1 rfl Try.runUnderlying35 rfl Try.sizeOf32 (by decide) rfl) rfl rfl rfl ?_
      refine al_q (q_fieldAddr 2 rfl Try.runUnderlying32 rfl Try.sizeOf30 (by decide) rfl) rfl rfl rfl ?_
      refine al_q (q_load (i := 1) rfl rfl rfl Try.isAgg30) rfl rfl rfl ?_
      refine al_q (q_move rfl) rfl rfl rfl ?_
      refine al_q (q_indexAddrA (i := x) (o21 + x * 1 + 0) hA2 rfl rfl rfl (by omega) Try.runUnderlying30 Try.sizeOf3 rfl) rfl rfl rfl ?_
      refine al_q (q_loadX rfl Try.isAgg3 (fun w9 hs => (hs.below.cell (p := ⟨_, _, none⟩) hlt2).trans ((hget2 x _ hx2) 0 _ rfl))) rfl rfl rfl ?_
      refine al_q (q_assign rfl) rfl rfl rfl ?_
      refine al_end ?_
      refine aq_then ?_
      refine ac_block ?_
      refine ac_loop (β := Int × Int) (fun p => 0 ≤ p.1 ∧ p.1 ≤ 1000000 ∧ -1000000 ≤ p.2 ∧ p.2 ≤ 1000000 ∧ p.1 + setI (sA M x).loss p.2 = setI (sA M x).loss (iA S.C.shells x)) (fun p => [(3, (.pointer (some ⟨b2, 0, none⟩))), (4, (.int .i64 0)), (5, (.int .i64 0)), (6, (.int .i64 (maxTo (setA M S) x))), (7, (.int .i64 (x : Int))), (8, (.pointer (some ⟨b3, 0, none⟩))), (9, (.int .i64 p.1)), (10, (.int .i64 p.2)), (16, (.slice (R.B) R.lb R.cb)), (17, (.int .i64 (R.lb : Int))), (18, (.int .i64 (x : Int))), (20, (.int .i64 (x : Int))), (21, (.pointer (some ⟨b11, o11 + x * 4 + 0, none⟩))), (23, (.pointer (some ⟨b2, 1, none⟩))), (24, (.pointer (some ⟨b2, 2, none⟩))), (25, (.slice RS.Q.B RS.Q.lb RS.Q.cb)), (26, (.int .i64 (x : Int))), (27, (.pointer (some ⟨b21, o21 + x * 1 + 0, none⟩)))]) (fun _ => _) (fun p => [(b3, _), (b2, _), (b1, _)]) (fun p => p.2.natAbs) (0, iA S.C.shells x) ⟨by simp, by simp, by simp only; omega, by simp only; omega, by simp only; omega⟩ ⟨rfl, rfl, rfl, rfl, rfl, rfl, rfl, rfl, rfl, rfl, rfl, rfl, rfl, rfl, rfl, rfl, rfl, rfl, trivial⟩ (fun w9 hs => hs) (fun p hF2 => ?_)
      refine ac_seq ?_
      refine ac_seq ?_
      refine ac_region ?_
      refine al_q (q_move rfl) rfl rfl rfl ?_
      refine al_q (q_neq rfl rfl) rfl rfl rfl ?_
      refine al_end ?_
      refine aq_then ?_
      refine ac_cond rfl (fun h3 => ?_) (fun h3 => ?_)
      · have g3 : p.2 ≠ 0 := by simpa using h3
        have hst := setI_step q1 g3
        have hless := lost_less q1 g3
        have hin := lost_in ⟨hF2.2.2.1, hF2.2.2.2.1⟩ q1
        obtain ⟨p1, p2, p3⟩ := lost_p ⟨hF2.2.2.1, hF2.2.2.2.1⟩ q1
        have q5 := setI_bd (loss := (sA M x).loss) (c := p.2 - lostI p.2 (sA M x).loss)
        refine ac_skip ?_
        refine aq_then ?_
        refine ac_seq ?_
        refine ac_block ?_
        refine ac_region ?_
        refine al_q (q_move rfl) rfl rfl rfl ?_
        refine al_q (q_add rfl rfl (by omega)) rfl rfl rfl ?_
        refine al_q (q_assign rfl) rfl rfl rfl ?_
        refine al_end ?_
        refine aq_inN ?_
        refine aq_then ?_
        refine ac_region ?_
        refine al_q (q_move rfl) rfl rfl rfl ?_
        refine al_q (q_move rfl) rfl rfl rfl ?_
        refine al_q (q_fieldAddr 3 rfl Try.runUnderlying84 rfl Try.sizeOf3 (by decide) rfl) rfl rfl rfl ?_
        refine al_q (q_load (i := 0) rfl rfl rfl Try.isAgg3) rfl rfl rfl ?_
        refine al_call Try.call49 (.cons rfl (.cons rfl .nil)) rfl rfl (fun w2 hs2 => ?_)
        refine (clost_any p.2 (sA M x).loss _ (by omega) (by omega)).mono ?_
        rintro e u2 ⟨rfl, hb_2⟩
        refine ⟨_, rfl, hb_2, ?_⟩
        clear hs2
        refine al_q (q_sub rfl rfl (by omega)) rfl rfl rfl ?_
        refine al_q (q_assign rfl) rfl rfl rfl ?_
        refine al_end ?_
        refine aq_then ?_
        skip
        refine aq_round ((p.1 + 1, (p.2 - lostI p.2 (sA M x).loss))) (by simp only; omega) ⟨by simp only; omega, by simp only; omega, by simp only; omega, by simp only; omega, by simp only; omega⟩ ⟨rfl, rfl, rfl, rfl, rfl, rfl, rfl, rfl, rfl, rfl, rfl, rfl, rfl, rfl, rfl, rfl, rfl, rfl, trivial⟩ (fun w9 hs => (hs.fewer 1 rfl))
      · have g3 : p.2 = 0 := by simpa using h3
        have hp1 : p.1 = setA M S x := by have := hF2.2.2.2.2; rw [g3, setI_zero] at this; unfold setA; omega
        have hmx : 0 ≤ max (maxTo (setA M S) x) (setA M S x) ∧ max (maxTo (setA M S) x) (setA M S x) ≤ 1000000 := by omega
        have hval : max (maxTo (setA M S) x) p.1 = maxTo (setA M S) (x + 1) := by simp only [maxTo, hp1]
        refine ac_exit ?_
        refine aq_thenE ?_
        refine aq_thenE ?_
        refine aq_hit ?_
        refine aq_then ?_
        refine ac_region ?_
        refine al_q (q_move rfl) rfl rfl rfl ?_
        refine al_q (q_move rfl) rfl rfl rfl ?_
        refine al_q (q_max rfl rfl) rfl rfl rfl ?_
        refine al_q (q_assign rfl) rfl rfl rfl ?_
        refine al_end ?_
        refine aq_inN ?_
        refine aq_then ?_
        refine ac_region ?_
        refine al_q (q_add rfl rfl (by omega)) rfl rfl rfl ?_
        refine al_q (q_move rfl) rfl rfl rfl ?_
        refine al_end ?_
        refine aq_then ?_
        skip
        refine aq_round (x + 1) (by omega) ⟨by omega, by simp only [maxTo]; omega, by simp only [maxTo]; omega⟩ ⟨rfl, rfl, rfl, (by (rw [← hval]) <;> rfl), rfl, rfl, rfl, trivial⟩ (fun w9 hs => (hs.tail 1 rfl))
    · have hxe : x = R.lb := by have := of_decide_eq_false h2; omega
      refine ac_exit ?_
      refine aq_thenE ?_
      refine aq_thenE ?_
      refine aq_hit ?_
      refine aq_then ?_
      refine ac_seq ?_
      refine ac_region ?_
      refine al_q (q_move rfl) rfl rfl rfl ?_
      refine al_q (q_assign rfl) rfl rfl rfl ?_
      refine al_q (q_assign rfl) rfl rfl rfl ?_
      refine al_end ?_
      refine aq_then ?_
      refine ac_ret ?_
      refine ret2 Try.results23 rfl rfl (fun w9 hs => ?_)
      have hE : settleL M S = (maxTo (setA M S) R.lb, 0) := by rw [settleL, if_pos hv, hM.shells.1]
      rw [hE, ← hxe]; exact ⟨rfl, hs.below⟩

set_option maxRecDepth 100000 in
theorem rsettle_any (R : MachR) (M : MachD) (RS : StR) (S : StD) (w : World) (hM : IsM w R M) (hS : IsS w RS S) : Calls Try.prog 24 #[(.agg (machCells R M)), (RS.v S.tick)] w (Ret (.tuple #[.int .i64 (settleL M S).1, .int .i64 (settleL M S).2]) w) := by
  have n1 := hM.shells.1
  refine calls_ax (vs := [(.agg (machCells R M)), (RS.v S.tick)]) Try.func24 rfl rfl ?_
  refine ac_seq ?_
  refine ac_region ?_
  refine al_new (fun b => .pointer (some ⟨b, 0, none⟩)) (r_box rfl rfl) rfl rfl rfl ?_
  intro b1
  refine al_new (fun b => .pointer (some ⟨b, 0, none⟩)) (r_box rfl rfl) rfl rfl rfl ?_
  intro b2
  refine al_q (q_assign rfl) rfl rfl rfl ?_
  refine al_q (q_assign rfl) rfl rfl rfl ?_
  refine al_end ?_
  refine aq_then ?_
  refine ac_seq ?_
  refine ac_seq ?_
  refine ac_region ?_
  refine al_q (q_loadAll (i := 1) rfl rfl Try.isAgg29 Try.sizeOf29 rfl) rfl rfl rfl ?_
  refine al_q (q_loadAll (i := 0) rfl rfl Try.isAgg35 Try.sizeOf35 rfl) rfl rfl rfl ?_
  refine al_call Try.call14 (.cons rfl (.cons rfl .nil)) rfl rfl (fun w1 hs1 => ?_)
  refine (rvalidState_any R M RS S _ (hM.below hs1.below) (hS.below hs1.below)).mono ?_
  rintro e u1 ⟨rfl, hb_1⟩
  refine ⟨_, rfl, hb_1, ?_⟩
  clear hs1
  refine al_q (q_not rfl) rfl rfl rfl ?_
  refine al_end ?_
  refine aq_then ?_
  refine ac_cond rfl (fun h1 => ?_) (fun h1 => ?_)
  · have hE : settleL M S = (0, 1) := if_neg (fun h => by rw [h] at h1; cases h1)
    refine ac_seq ?_
    refine ac_region ?_
    refine al_q (q_assign rfl) rfl rfl rfl ?_
    refine al_q (q_assign rfl) rfl rfl rfl ?_
    refine al_end ?_
    refine aq_then ?_
    refine ac_ret ?_
    refine aq_thenR ?_
    refine ret2 Try.results24 rfl rfl (fun w9 hs => ?_)
    rw [hE]; exact ⟨rfl, hs.below⟩
  · have hv : validS M S = true := by simpa using h1
    have hf := fitS_iff.1 hv
    have n5 := (sound_of hf.cur.check).shells.1
    have n6 := hf.cur.shells.1
    have n7 := hS.cur.shells.1
    refine ac_skip ?_
    refine aq_then ?_
    refine ac_seq ?_
    refine ac_region ?_
    refine al_q (q_assign rfl) rfl rfl rfl ?_
    refine al_end ?_
    refine aq_then ?_
    refine ac_seq ?_
    refine ac_seq ?_
    refine ac_region ?_
    refine al_q (q_assign rfl) rfl rfl rfl ?_
    refine al_end ?_
    refine aq_then ?_
    refine ac_block ?_
    refine ac_loop (β := Nat) (fun x => x ≤ R.lb ∧ 0 ≤ maxTo (setA M S) x ∧ maxTo (setA M S) x ≤ 1000000) (fun x => [(2, (.pointer (some ⟨b1, 0, none⟩))), (3, (.pointer (some ⟨b2, 0, none⟩))), (4, (.int .i64 0)), (5, (.int .i64 0)), (6, (.int .i64 (maxTo (setA M S) x))), (7, (.int .i64 (x : Int)))]) (fun _ => _) (fun x => [(b2, _), (b1, _)]) (fun x => R.lb - x) 0 ⟨by omega, by simp [maxTo], by simp [maxTo]⟩ ⟨rfl, rfl, rfl, rfl, rfl, rfl, trivial⟩ (fun w9 hs => hs) (fun x hF1 => ?_)
    refine ac_seq ?_
    refine ac_seq ?_
    refine ac_region ?_
    refine al_q (q_move rfl) rfl rfl rfl ?_
    refine al_q (q_fieldAddr 2 rfl Try.runUnderlying29 rfl Try.sizeOf23 (by decide) rfl) rfl rfl rfl ?_
    refine al_q (q_load (i := 1) rfl rfl rfl Try.isAgg23) rfl rfl rfl ?_
    refine al_q (q_lenS rfl Try.runUnderlying23) rfl rfl rfl ?_
    refine al_q (q_lss rfl rfl) rfl rfl rfl ?_
    refine al_end ?_
    refine aq_then ?_
    refine ac_cond rfl (fun h2 => ?_) (fun h2 => ?_)
    · have hxl : x < R.lb := by have := of_decide_eq_true h2; omega
      obtain ⟨b11, o11, hA1, hlt1, hget1⟩ := hM.shells.2 (by omega)
      have hx1 := sA_get (M := M) (k := x) (by omega)
      obtain ⟨b21, o21, hA2, hlt2, hget2⟩ := hS.cur.shells.2 (by omega)
      have hx2 := iA_get (l := S.C.shells) (k := x) (by omega)
      have q1 := (sA_ok hf.cur.check (k := x) (by omega)).loss
      have q2 := hf.cur.shells.2 _ (List.mem_of_getElem? hx2)
      have q3 := setI_bd (loss := (sA M x).loss) (c := iA S.C.shells x)
      have q4 : 0 ≤ setA M S x ∧ setA M S x ≤ 1000000 := by unfold setA; omega
      refine ac_skip ?_
      refine aq_then ?_
      refine ac_seq ?_
      refine ac_block ?_
      refine ac_seq ?_
      refine ac_region ?_
      refine al_q (q_assign rfl) rfl rfl rfl ?_
      refine al_end ?_
      refine aq_then ?_
      refine ac_seq ?_
      refine ac_seq ?_
      refine ac_region ?_
      refine al_q (q_fieldAddr 1 rfl Try.runUnderlying35 rfl Try.sizeOf32 (by decide) rfl) rfl rfl rfl ?_
      refine al_q (q_fieldAddr 2 rfl Try.runUnderlying32 rfl Try.sizeOf30 (by decide) rfl) rfl rfl rfl ?_
      refine al_q (q_load (i := 0) rfl rfl rfl Try.isAgg30) rfl rfl rfl ?_
      refine al_q (q_move rfl) rfl rfl rfl ?_
      refine al_q (q_indexAddrA (i := x) (o21 + x * 1 + 0) hA2 rfl rfl rfl (by omega) Try.runUnderlying30 Try.sizeOf3 rfl) rfl rfl rfl ?_
      refine al_q (q_loadX rfl Try.isAgg3 (fun w9 hs => (hs.below.cell (p := ⟨_, _, none⟩) hlt2).trans ((hget2 x _ hx2) 0 _ rfl))) rfl rfl rfl ?_
      refine al_q (q_assign rfl) rfl rfl rfl ?_
      refine al_end ?_
      refine aq_then ?_
      refine ac_block ?_
      refine ac_loop (β := Int × Int) (fun p => 0 ≤ p.1 ∧ p.1 ≤ 1000000 ∧ -1000000 ≤ p.2 ∧ p.2 ≤ 1000000 ∧ p.1 + setI (sA M x).loss p.2 = setI (sA M x).loss (iA S.C.shells x)) (fun p => [(2, (.pointer (some ⟨b1, 0, none⟩))), (3, (.pointer (some ⟨b2, 0, none⟩))), (4, (.int .i64 0)), (5, (.int .i64 0)), (6, (.int .i64 (maxTo (setA M S) x))), (7, (.int .i64 (x : Int))), (8, (.int .i64 p.1)), (9, (.int .i64 p.2)), (14, (.int .i64 (x : Int))), (15, (.pointer (some ⟨b1, 2, none⟩))), (16, (.slice (R.B) R.lb R.cb)), (17, (.int .i64 (R.lb : Int))), (21, (.pointer (some ⟨b2, 1, none⟩))), (22, (.pointer (some ⟨b2, 2, none⟩))), (23, (.slice RS.Q.B RS.Q.lb RS.Q.cb)), (24, (.int .i64 (x : Int))), (25, (.pointer (some ⟨b21, o21 + x * 1 + 0, none⟩)))]) (fun _ => _) (fun p => [(b2, _), (b1, _)]) (fun p => p.2.natAbs) (0, iA S.C.shells x) ⟨by simp, by simp, by simp only; omega, by simp only; omega, by simp only; omega⟩ ⟨rfl, rfl, rfl, rfl, rfl, rfl, rfl, rfl, rfl, rfl, rfl, rfl, rfl, rfl, rfl, rfl, rfl, trivial⟩ (fun w9 hs => hs) (fun p hF2 => ?_)
      refine ac_seq ?_
      refine ac_seq ?_
      refine ac_region ?_
      refine al_q (q_move rfl) rfl rfl rfl ?_
      refine al_q (q_neq rfl rfl) rfl rfl rfl ?_
      refine al_end ?_
      refine aq_then ?_
      refine ac_cond rfl (fun h3 => ?_) (fun h3 => ?_)
      · have g3 : p.2 ≠ 0 := by simpa using h3
        have hst := setI_step q1 g3
        have hless := lost_less q1 g3
        have hin := lost_in ⟨hF2.2.2.1, hF2.2.2.2.1⟩ q1
        obtain ⟨p1, p2, p3⟩ := lost_p ⟨hF2.2.2.1, hF2.2.2.2.1⟩ q1
        have q5 := setI_bd (loss := (sA M x).loss) (c := p.2 - lostI p.2 (sA M x).loss)
        refine ac_skip ?_
        refine aq_then ?_
        refine ac_seq ?_
        refine ac_block ?_
        refine ac_region ?_
        refine al_q (q_move rfl) rfl rfl rfl ?_
        refine al_q (q_move rfl) rfl rfl rfl ?_
        refine al_q (q_fieldAddr 2 rfl Try.runUnderlying29 rfl Try.sizeOf23 (by decide) rfl) rfl rfl rfl ?_
        refine al_q (q_load (i := 1) rfl rfl rfl Try.isAgg23) rfl rfl rfl ?_
        refine al_q (q_move rfl) rfl rfl rfl ?_
        refine al_q (q_indexAddrA (i := x) (o11 + x * 4 + 0) hA1 rfl rfl rfl (by omega) Try.runUnderlying23 Try.sizeOf84 rfl) rfl rfl rfl ?_
        refine al_q (q_fieldAddr (o11 + x * 4 + 3) rfl Try.runUnderlying84 rfl Try.sizeOf3 (by decide) rfl) rfl rfl rfl ?_
        refine al_q (q_loadX rfl Try.isAgg3 (fun w9 hs => (hs.below.cell (p := ⟨_, _, none⟩) hlt1).trans ((hget1 x _ hx1) 3 _ rfl))) rfl rfl rfl ?_
        refine al_call Try.call50 (.cons rfl (.cons rfl .nil)) rfl rfl (fun w2 hs2 => ?_)
        refine (rlost3_any p.2 (sA M x).loss _ (by omega) (by omega)).mono ?_
        rintro e u2 ⟨rfl, hb_2⟩
        refine ⟨_, rfl, hb_2, ?_⟩
        clear hs2
        refine al_q (q_sub rfl rfl (by omega)) rfl rfl rfl ?_
        refine al_q (q_assign rfl) rfl rfl rfl ?_
        refine al_end ?_
        refine aq_inN ?_
        refine aq_then ?_
        refine ac_region ?_
        refine al_q (q_move rfl) rfl rfl rfl ?_
        refine al_q (q_add rfl rfl (by omega)) rfl rfl rfl ?_
        refine al_q (q_assign rfl) rfl rfl rfl ?_
        refine al_end ?_
        refine aq_then ?_
        skip
        refine aq_round ((p.1 + 1, (p.2 - lostI p.2 (sA M x).loss))) (by simp only; omega) ⟨by simp only; omega, by simp only; omega, by simp only; omega, by simp only; omega, by simp only; omega⟩ ⟨rfl, rfl, rfl, rfl, rfl, rfl, rfl, rfl, rfl, rfl, rfl, rfl, rfl, rfl, rfl, rfl, rfl, trivial⟩ (fun w9 hs => (hs.fewer 1 rfl))
      · have g3 : p.2 = 0 := by simpa using h3
        have hp1 : p.1 = setA M S x := by have := hF2.2.2.2.2; rw [g3, setI_zero] at this; unfold setA; omega
        have hmx : 0 ≤ max (maxTo (setA M S) x) (setA M S x) ∧ max (maxTo (setA M S) x) (setA M S x) ≤ 1000000 := by omega
        have hval : max (maxTo (setA M S) x) p.1 = maxTo (setA M S) (x + 1) := by simp only [maxTo, hp1]
        refine ac_exit ?_
        refine aq_thenE ?_
        refine aq_thenE ?_
        refine aq_hit ?_
        refine aq_then ?_
        refine ac_seq ?_
        refine ac_region ?_
        refine al_q (q_move rfl) rfl rfl rfl ?_
        refine al_q (q_move rfl) rfl rfl rfl ?_
        refine al_q (q_gtr rfl rfl) rfl rfl rfl ?_
        refine al_end ?_
        refine aq_then ?_
        refine ac_cond rfl (fun h4 => ?_) (fun h4 => ?_)
        · have g4 := of_decide_eq_true h4
          have hval2 : p.1 = maxTo (setA M S) (x + 1) := by omega
          refine ac_region ?_
          refine al_q (q_move rfl) rfl rfl rfl ?_
          refine al_q (q_assign rfl) rfl rfl rfl ?_
          refine al_end ?_
          refine aq_inN ?_
          refine aq_then ?_
          refine ac_region ?_
          refine al_q (q_move rfl) rfl rfl rfl ?_
          refine al_q (q_add rfl rfl (by omega)) rfl rfl rfl ?_
          refine al_q (q_assign rfl) rfl rfl rfl ?_
          refine al_end ?_
          refine aq_then ?_
          skip
          refine aq_round (x + 1) (by omega) ⟨by omega, by simp only [maxTo]; omega, by simp only [maxTo]; omega⟩ ⟨rfl, rfl, rfl, rfl, (by (rw [← hval2]) <;> rfl), rfl, trivial⟩ (fun w9 hs => hs)
        · have g4 := of_decide_eq_false h4
          have hval2 : maxTo (setA M S) x = maxTo (setA M S) (x + 1) := by omega
          refine ac_skip ?_
          refine aq_inN ?_
          refine aq_then ?_
          refine ac_region ?_
          refine al_q (q_move rfl) rfl rfl rfl ?_
          refine al_q (q_add rfl rfl (by omega)) rfl rfl rfl ?_
          refine al_q (q_assign rfl) rfl rfl rfl ?_
          refine al_end ?_
          refine aq_then ?_
          skip
          refine aq_round (x + 1) (by omega) ⟨by omega, by simp only [maxTo]; omega, by simp only [maxTo]; omega⟩ ⟨rfl, rfl, rfl, rfl, (by (rw [← hval2]) <;> rfl), rfl, trivial⟩ (fun w9 hs => hs)
    · have hxe : x = R.lb := by have := of_decide_eq_false h2; omega
      refine ac_exit ?_
      refine aq_thenE ?_
      refine aq_thenE ?_
      refine aq_hit ?_
      refine aq_then ?_
      refine ac_seq ?_
      refine ac_region ?_
      refine al_q (q_move rfl) rfl rfl rfl ?_
      refine al_q (q_assign rfl) rfl rfl rfl ?_
      refine al_q (q_assign rfl) rfl rfl rfl ?_
      refine al_end ?_
      refine aq_then ?_
      refine ac_ret ?_
      refine ret2 Try.results24 rfl rfl (fun w9 hs => ?_)
      have hE : settleL M S = (maxTo (setA M S) R.lb, 0) := by rw [settleL, if_pos hv, hM.shells.1]
      rw [hE, ← hxe]; exact ⟨rfl, hs.below⟩

end Go.Proofs.Ytcjndnadibbcbaa
end
section
/- Coasting without currents; calm, over this seat's translation (written by ax_ci17.py). -/
namespace Go.Proofs.Ytcjndnadibbcbaa
set_option linter.unusedVariables false
set_option linter.unusedSimpArgs false
open Go.RowKit

def decI (loss : Int) : Nat → Int → Int
  | 0, c => c
  | n + 1, c => decI loss n (c - lostI c loss)
theorem decI_succ (loss : Int) : ∀ (n : Nat) (c : Int), decI loss (n + 1) c = decI loss n c - lostI (decI loss n c) loss
  | 0, c => rfl
  | n + 1, c => by
    have h := decI_succ loss n (c - lostI c loss)
    exact h
theorem lostI_zero (loss : Int) : lostI 0 loss = 0 := by
  unfold lostI
  rw [if_neg (by omega), show max (0 : Int) (-0) = 0 from by omega, Int.zero_mul]; rfl
theorem decI_zero (loss : Int) : ∀ n : Nat, decI loss n 0 = 0
  | 0 => rfl
  | n + 1 => by simp only [decI]; rw [lostI_zero]; exact decI_zero loss n
theorem dec_set {loss : Int} (hl : 1 ≤ loss ∧ loss ≤ 1000) : ∀ (n : Nat) (c : Int), decI loss n c = 0 ↔ setI loss c ≤ (n : Int)
  | 0, c => by
    simp only [decI]
    by_cases h : c = 0
    · subst h; simp [setI_zero]
    · have h1 := setI_step hl h
      have h2 := setI_bd (loss := loss) (c := c - lostI c loss)
      constructor
      · intro g; exact absurd g h
      · intro g; omega
  | n + 1, c => by
    by_cases h : c = 0
    · subst h
      simp only [decI_zero, setI_zero]
      constructor
      · intro _; omega
      · intro _; trivial
    · have h1 := setI_step hl h
      have h2 := dec_set hl n (c - lostI c loss)
      simp only [decI]
      rw [h2]; omega
theorem appI_zero {c : CoilD} (hc : Coil2 c) (t : Bool) : appI c 0 0 t = 0 := by
  have := hc.step
  have := hc.cur
  unfold appI cutI
  split <;> omega
theorem iA_zero {l : List Int} (h : ∀ y ∈ l, y = 0) (k : Nat) : iA l k = 0 := by
  rcases Nat.lt_or_ge k l.length with g | g
  · exact h _ (iA_mem g)
  · exact iA_out g
theorem dotTo_zero {f : Nat → Int} : ∀ n : Nat, (∀ k, k < n → f k = 0) → dotTo f n = 0
  | 0, _ => rfl
  | n + 1, h => by simp only [dotTo]; rw [dotTo_zero n (fun k hk => h k (by omega)), h n (by omega)]; rfl
theorem indA_zero {M : MachD} {co ce : List Int} (h1 : ∀ y ∈ co, y = 0) (h2 : ∀ y ∈ ce, y = 0) (i : Nat) : indA M co ce i = 0 := by
  unfold indA
  rw [dotTo_zero _ (fun k hk => by
    unfold termA
    rw [iA_zero (fun y hy => (List.mem_append.1 hy).elim (h1 y) (h2 y)), Int.mul_zero]), Int.zero_tdiv]
theorem subL_self (l : List Int) : ∀ y ∈ subL l l, y = 0 := lst_all.2 fun k hk => by omega
theorem iA_zeros (n k : Nat) : iA (zerosI n) k = 0 := iA_zero (fun y hy => (List.mem_replicate.1 hy).2) k
/-- a tick that asks for nothing, where no coil moves -/
theorem calm_step {M : MachD} {S : StD} (hf : FitS M S) (h0 : ∀ k, k < M.coils.length → appA M S (zerosI M.coils.length) k = 0) : (∀ k, k < M.coils.length → iA (stepD M S (zerosI M.coils.length) S.C.plasma).C.coils k = iA S.C.coils k) ∧ (∀ k, k < M.shells.length → iA (stepD M S (zerosI M.coils.length) S.C.plasma).C.shells k = iA S.C.shells k - lostI (iA S.C.shells k) (sA M k).loss) := by
  refine ⟨fun k hk => ?_, fun k hk => ?_⟩
  · simp only [stepD]; rw [iA_lst _ hk, coilN, h0 k hk]; omega
  · simp only [stepD]
    rw [iA_lst _ hk, shellN, indA_zero (co := appL M S (zerosI M.coils.length)) (fun y hy => (lst_all (p := fun y => y = 0)).2 h0 y hy) (subL_self _)]
    have := lost_in (n := iA S.C.shells k) (hf.cur.shells.2 _ (iA_mem (by rw [hf.cur.shells.1]; exact hk))) (sA_ok hf.cur.check hk).loss
    unfold cutI; omega
/-- a state whose coils are off, and where its shells are after n ticks -/
theorem coast_zero {M : MachD} {S : StD} (hf : FitS M S) (hz : S.C.coils = zerosI M.coils.length) : ∀ n : Nat, S.tick + (n : Int) ≤ 1000000000 → (coastD M S n).C.plasma = S.C.plasma ∧ (∀ k, k < M.coils.length → iA (coastD M S n).C.coils k = 0) ∧ ∀ k, k < M.shells.length → iA (coastD M S n).C.shells k = decI (sA M k).loss n (iA S.C.shells k)
  | 0, _ => ⟨rfl, fun k hk => by show iA S.C.coils k = 0; rw [hz]; exact iA_zeros _ _, fun k hk => rfl⟩
  | n + 1, ht => by
    obtain ⟨e1, e2, e3⟩ := coast_zero hf hz n (by omega)
    have hfn : FitS M (coastD M S n) := steps_fit hf n (by omega) (fun _ _ => fitD_of zero_ch (plasma_ok hf))
    have hs : coastD M S (n + 1) = stepD M (coastD M S n) (zerosI M.coils.length) (coastD M S n).C.plasma := by rw [e1]; rfl
    have h0 : ∀ k, k < M.coils.length → appA M (coastD M S n) (zerosI M.coils.length) k = 0 := fun k hk => by
      unfold appA; rw [e2 k hk, iA_zeros]; exact appI_zero (cA_ok hf.cur.check hk) _
    obtain ⟨f1, f2⟩ := calm_step hfn h0
    rw [hs]
    exact ⟨e1, fun k hk => (f1 k hk).trans (e2 k hk), fun k hk => by rw [f2 k hk, e3 k hk, decI_succ]⟩
def wt (S : StD) (t : Int) : StD := ⟨t, S.C, S.heat, S.trip⟩
theorem IsS.wt {w : World} {R : StR} {S : StD} (h : IsS w R S) (t : Int) : IsS w R (wt S t) := ⟨h.cur, h.heat, h.trip, h.lh, h.lt, h.ch, h.ct, h.kh, h.kt⟩
theorem FitS.wt {M : MachD} {S : StD} (h : FitS M S) {t : Int} (ht : 0 ≤ t ∧ t ≤ 1000000000) : FitS M (wt S t) := ⟨h.cur, ht, h.heat, h.trip⟩
def dark (M : MachD) (S : StD) : StD := ⟨S.tick, ⟨zerosI M.coils.length, S.C.shells, S.C.plasma⟩, S.heat, S.trip⟩
theorem FitS.dark {M : MachD} {S : StD} (h : FitS M S) : FitS M (dark M S) :=
  ⟨⟨h.cur.check, ⟨by simp [Go.Proofs.Ytcjndnadibbcbaa.dark, zerosI], fun x hx => by obtain ⟨_, rfl⟩ := List.mem_replicate.1 hx; omega⟩, h.cur.shells, h.cur.plasma, h.cur.total⟩, h.tick, h.heat, h.trip⟩
theorem coastE_of {M : MachD} {S : StD} (hf : FitS M S) {n : Int} (hn : (0 ≤ n ∧ n ≤ 10000) ∧ S.tick + n ≤ 1000000000) : coastE M S n = 0 := by
  unfold coastE repE
  rw [if_pos (fitS_iff.2 hf), if_pos hn]
theorem coast_fit {M : MachD} {S : StD} (hf : FitS M S) (n : Nat) (ht : S.tick + (n : Int) ≤ 1000000000) : FitS M (coastD M S n) := steps_fit hf n ht (fun _ _ => fitD_of zero_ch (plasma_ok hf))
theorem calm_iff {M : MachD} {S : StD} (hf : FitS M S) (hz : S.C.coils = zerosI M.coils.length) {n : Int} (hn : (0 ≤ n ∧ n ≤ 10000) ∧ S.tick + n ≤ 1000000000) {k : Nat} (hk : k < M.shells.length) : iA (coastD M S n.toNat).C.shells k = 0 ↔ setA M S k ≤ n := by
  rw [(coast_zero hf hz n.toNat (by omega)).2.2 k hk, dec_set (sA_ok hf.cur.check hk).loss]
  unfold setA; omega

set_option maxRecDepth 100000 in
theorem calm_any (R : MachR) (M : MachD) (RS : StR) (S : StD) (n : Int) (w : World) (hM : IsM w R M) (hS : IsS w RS S) (hf : FitS M S) (hz : S.C.coils = zerosI M.coils.length) (hn0 : 0 ≤ n ∧ n ≤ 300) : Calls Try.prog 25 #[(.agg (machCells R M)), (RS.v S.tick), (.int .i64 n)] w (Ret (.bool (decide (∀ j ∈ List.range R.lb, setA M S j ≤ n))) w) := by
  have hn : 0 ≤ n ∧ n ≤ 10000 := by omega
  have hft := hf.tick
  have n1 := hM.shells.1
  have n5 := (sound_of hf.cur.check).shells.1
  refine calls_ax (vs := [(.agg (machCells R M)), (RS.v S.tick), (.int .i64 n)]) Try.func25 rfl rfl ?_
  refine ac_seq ?_
  refine ac_region ?_
  refine al_new (fun b => .pointer (some ⟨b, 0, none⟩)) (r_box rfl rfl) rfl rfl rfl ?_
  intro b1
  refine al_new (fun b => .pointer (some ⟨b, 0, none⟩)) (r_box rfl rfl) rfl rfl rfl ?_
  intro b2
  refine al_q (q_assign rfl) rfl rfl rfl ?_
  refine al_end ?_
  refine aq_then ?_
  refine ac_seq ?_
  refine ac_seq ?_
  refine ac_region ?_
  refine al_q (q_fieldAddr 0 rfl Try.runUnderlying35 rfl Try.sizeOf3 (by decide) rfl) rfl rfl rfl ?_
  refine al_q (q_load (i := 0) rfl rfl rfl Try.isAgg3) rfl rfl rfl ?_
  refine al_q (q_gtr rfl rfl) rfl rfl rfl ?_
  refine al_end ?_
  refine aq_then ?_
  refine ac_cond rfl (fun h1 => ?_) (fun h1 => ?_)
  · skip
    refine ac_region ?_
    refine al_q (q_fieldAddr 0 rfl Try.runUnderlying35 rfl Try.sizeOf3 (by decide) rfl) rfl rfl rfl ?_
    refine al_store1 (i := 0) rfl rfl rfl rfl Try.sizeOf3 .k0 .k0 rfl ?_
    refine al_end ?_
    refine aq_then ?_
    refine ac_seq ?_
    refine ac_region ?_
    refine al_q (q_loadAll (i := 1) rfl rfl Try.isAgg29 Try.sizeOf29 rfl) rfl rfl rfl ?_
    refine al_q (q_loadAll (i := 0) rfl rfl Try.isAgg35 Try.sizeOf35 rfl) rfl rfl rfl ?_
    refine al_q (q_move rfl) rfl rfl rfl ?_
    refine al_call Try.call19 (.cons rfl (.cons rfl (.cons rfl .nil))) rfl rfl (fun w1 hs1 => ?_)
    refine (ccoast_any R M RS (wt S (0 : Int)) n _ (hM.below hs1.below) ((hS.wt _).below hs1.below)).mono ?_
    rintro e u1 ⟨y, ny, rfl, k1_, k2_, hb_1⟩
    obtain ⟨rfl, X_y, N_y⟩ := outS_data k1_ k2_
    refine ⟨_, rfl, hb_1, ?_⟩
    clear hs1
    refine al_q (q_move rfl) rfl rfl rfl ?_
    refine al_q (q_extract rfl rfl) rfl rfl rfl ?_
    refine al_q (q_extract rfl rfl) rfl rfl rfl ?_
    refine al_new (fun b => .pointer (some ⟨b, 0, none⟩)) (r_alloc Try.zeroValue35 rfl) rfl rfl rfl ?_
    intro b3
    refine al_storeAll (i := 0) rfl rfl rfl rfl Try.sizeOf35 rfl rfl .k0 rfl ?_
    refine al_q (q_assign rfl) rfl rfl rfl ?_
    refine al_end ?_
    refine aq_then ?_
    refine ac_seq ?_
    refine ac_seq ?_
    refine ac_region ?_
    refine al_q (q_move rfl) rfl rfl rfl ?_
    refine al_q (q_neq rfl rfl) rfl rfl rfl ?_
    refine al_end ?_
    refine aq_then ?_
    refine ac_cond rfl (fun h2 => ?_) (fun h2 => ?_)
    · exfalso; have := coastE_of (n := n) (hf.wt (t := (0 : Int)) ⟨by omega, by omega⟩) ⟨hn, by simp only [wt]; omega⟩; simp [this] at h2
    · have hk0 : coastE M (wt S (0 : Int)) n = 0 := by simpa using h2
      have hD : (endD (coastE M (wt S (0 : Int)) n) (coastD M (wt S (0 : Int)) n.toNat)) = coastD M (wt S (0 : Int)) n.toNat := if_pos hk0
      have hfn : FitS M (coastD M (wt S (0 : Int)) n.toNat) := coast_fit (hf.wt (t := (0 : Int)) ⟨by omega, by omega⟩) _ (by simp only [wt]; omega)
      have hly : (endD (coastE M (wt S (0 : Int)) n) (coastD M (wt S (0 : Int)) n.toNat)).C.shells.length = R.lb := by rw [hD, hfn.cur.shells.1]; exact hM.shells.1
      have hlz := X_y.cur.shells.1
      have hlb : y.Q.lb = R.lb := by omega
      refine ac_skip ?_
      refine aq_then ?_
      refine ac_seq ?_
      refine ac_seq ?_
      refine ac_region ?_
      refine al_q (q_assign rfl) rfl rfl rfl ?_
      refine al_end ?_
      refine aq_then ?_
      refine ac_block ?_
      refine ac_loop (β := Nat) (fun x => x ≤ R.lb ∧ ∀ j, j < x → setA M S j ≤ n) (fun x => [(6, (.bool false)), (7, (.pointer (some ⟨b3, 0, none⟩))), (9, (.int .i64 (x : Int)))]) (fun _ => _) (fun x => [(b3, _), (b2, _), (b1, _)]) (fun x => R.lb - x) 0 ⟨by omega, fun j h => by omega⟩ ⟨rfl, rfl, rfl, trivial⟩ (fun w9 hs => hs) (fun x hF1 => ?_)
      refine ac_seq ?_
      refine ac_seq ?_
      refine ac_region ?_
      refine al_q (q_move rfl) rfl rfl rfl ?_
      refine al_q (q_fieldAddr 1 rfl Try.runUnderlying35 rfl Try.sizeOf32 (by decide) rfl) rfl rfl rfl ?_
      refine al_q (q_fieldAddr 2 rfl Try.runUnderlying32 rfl Try.sizeOf30 (by decide) rfl) rfl rfl rfl ?_
      refine al_q (q_load (i := 0) rfl rfl rfl Try.isAgg30) rfl rfl rfl ?_
      refine al_q (q_lenS rfl Try.runUnderlying30) rfl rfl rfl ?_
      refine al_q (q_lss rfl rfl) rfl rfl rfl ?_
      refine al_end ?_
      refine aq_then ?_
      refine ac_cond rfl (fun h3 => ?_) (fun h3 => ?_)
      · have hxl : x < R.lb := by have := of_decide_eq_true h3; omega
        obtain ⟨b61, o61, hA6, hlt6, hget6⟩ := X_y.cur.shells.2 (by omega)
        have hx6 := iA_get (l := (endD (coastE M (wt S (0 : Int)) n) (coastD M (wt S (0 : Int)) n.toNat)).C.shells) (k := x) (by omega)
        have hiff := calm_iff (hf.wt (t := (0 : Int)) ⟨by omega, by omega⟩) hz (n := n) ⟨hn, by simp only [wt]; omega⟩ (k := x) (by omega)
        refine ac_skip ?_
        refine aq_then ?_
        refine ac_seq ?_
        refine ac_block ?_
        refine ac_seq ?_
        refine ac_region ?_
        refine al_q (q_fieldAddr 1 rfl Try.runUnderlying35 rfl Try.sizeOf32 (by decide) rfl) rfl rfl rfl ?_
        refine al_q (q_fieldAddr 2 rfl Try.runUnderlying32 rfl Try.sizeOf30 (by decide) rfl) rfl rfl rfl ?_
        refine al_q (q_load (i := 0) rfl rfl rfl Try.isAgg30) rfl rfl rfl ?_
        refine al_q (q_move rfl) rfl rfl rfl ?_
        refine al_q (q_indexAddrA (i := x) (o61 + x * 1 + 0) hA6 rfl rfl rfl (by omega) Try.runUnderlying30 Try.sizeOf3 rfl) rfl rfl rfl ?_
        refine al_q (q_loadX rfl Try.isAgg3 (fun w9 hs => (hs.cellOf (.head _) (N_y.b _ _ hA6) hlt6 (hget6 x _ hx6 0 _ rfl)))) rfl rfl rfl ?_
        refine al_q (q_neq rfl rfl) rfl rfl rfl ?_
        refine al_end ?_
        refine aq_then ?_
        refine ac_cond rfl (fun h4 => ?_) (fun h4 => ?_)
        · have hbig : ¬ ∀ j ∈ List.range R.lb, setA M S j ≤ n := fun h => by
            have h1 := hiff.2 (h x (List.mem_range.2 hxl))
            rw [hD, h1] at h4; simp at h4
          refine ac_seq ?_
          refine ac_region ?_
          refine al_q (q_assign rfl) rfl rfl rfl ?_
          refine al_end ?_
          refine aq_then ?_
          refine ac_ret ?_
          refine aq_inR ?_
          refine aq_thenR ?_
          refine aq_thenR ?_
          refine aq_inR ?_
          refine aq_thenR ?_
          refine ret1 Try.results25 rfl (fun w9 hs => ?_)
          rw [decide_eq_false hbig]; exact ⟨rfl, hs.below⟩
        · have hnew : setA M S x ≤ n := hiff.1 (by rw [hD] at h4; simpa using h4)
          refine ac_skip ?_
          refine aq_inN ?_
          refine aq_then ?_
          refine ac_region ?_
          refine al_q (q_move rfl) rfl rfl rfl ?_
          refine al_q (q_add rfl rfl (by omega)) rfl rfl rfl ?_
          refine al_q (q_assign rfl) rfl rfl rfl ?_
          refine al_end ?_
          refine aq_then ?_
          skip
          refine aq_round (x + 1) (by omega) ⟨by omega, upTo hF1.2 hnew⟩ ⟨rfl, rfl, rfl, trivial⟩ (fun w9 hs => hs)
      · have hxe : x = R.lb := by have := of_decide_eq_false h3; omega
        refine ac_exit ?_
        refine aq_thenE ?_
        refine aq_thenE ?_
        refine aq_hit ?_
        refine aq_then ?_
        refine ac_seq ?_
        refine ac_region ?_
        refine al_q (q_assign rfl) rfl rfl rfl ?_
        refine al_end ?_
        refine aq_then ?_
        refine ac_ret ?_
        refine ret1 Try.results25 rfl (fun w9 hs => ?_)
        rw [decide_eq_true (fun j hj => hF1.2 j (by have := List.mem_range.1 hj; omega))]; exact ⟨rfl, hs.below⟩
  · have g1 := of_decide_eq_false h1
    refine ac_skip ?_
    refine aq_then ?_
    refine ac_seq ?_
    refine ac_region ?_
    refine al_q (q_loadAll (i := 1) rfl rfl Try.isAgg29 Try.sizeOf29 rfl) rfl rfl rfl ?_
    refine al_q (q_loadAll (i := 0) rfl rfl Try.isAgg35 Try.sizeOf35 rfl) rfl rfl rfl ?_
    refine al_q (q_move rfl) rfl rfl rfl ?_
    refine al_call Try.call19 (.cons rfl (.cons rfl (.cons rfl .nil))) rfl rfl (fun w2 hs2 => ?_)
    refine (ccoast_any R M RS (wt S S.tick) n _ (hM.below hs2.below) ((hS.wt _).below hs2.below)).mono ?_
    rintro e u2 ⟨y, ny, rfl, k1_, k2_, hb_2⟩
    obtain ⟨rfl, X_y, N_y⟩ := outS_data k1_ k2_
    refine ⟨_, rfl, hb_2, ?_⟩
    clear hs2
    refine al_q (q_move rfl) rfl rfl rfl ?_
    refine al_q (q_extract rfl rfl) rfl rfl rfl ?_
    refine al_q (q_extract rfl rfl) rfl rfl rfl ?_
    refine al_new (fun b => .pointer (some ⟨b, 0, none⟩)) (r_alloc Try.zeroValue35 rfl) rfl rfl rfl ?_
    intro b4
    refine al_storeAll (i := 0) rfl rfl rfl rfl Try.sizeOf35 rfl rfl .k0 rfl ?_
    refine al_q (q_assign rfl) rfl rfl rfl ?_
    refine al_end ?_
    refine aq_then ?_
    refine ac_seq ?_
    refine ac_seq ?_
    refine ac_region ?_
    refine al_q (q_move rfl) rfl rfl rfl ?_
    refine al_q (q_neq rfl rfl) rfl rfl rfl ?_
    refine al_end ?_
    refine aq_then ?_
    refine ac_cond rfl (fun h5 => ?_) (fun h5 => ?_)
    · exfalso; have := coastE_of (n := n) (hf.wt (t := S.tick) ⟨by omega, by omega⟩) ⟨hn, by simp only [wt]; omega⟩; simp [this] at h5
    · have hk0 : coastE M (wt S S.tick) n = 0 := by simpa using h5
      have hD : (endD (coastE M (wt S S.tick) n) (coastD M (wt S S.tick) n.toNat)) = coastD M (wt S S.tick) n.toNat := if_pos hk0
      have hfn : FitS M (coastD M (wt S S.tick) n.toNat) := coast_fit (hf.wt (t := S.tick) ⟨by omega, by omega⟩) _ (by simp only [wt]; omega)
      have hly : (endD (coastE M (wt S S.tick) n) (coastD M (wt S S.tick) n.toNat)).C.shells.length = R.lb := by rw [hD, hfn.cur.shells.1]; exact hM.shells.1
      have hlz := X_y.cur.shells.1
      have hlb : y.Q.lb = R.lb := by omega
      refine ac_skip ?_
      refine aq_then ?_
      refine ac_seq ?_
      refine ac_seq ?_
      refine ac_region ?_
      refine al_q (q_assign rfl) rfl rfl rfl ?_
      refine al_end ?_
      refine aq_then ?_
      refine ac_block ?_
      refine ac_loop (β := Nat) (fun x => x ≤ R.lb ∧ ∀ j, j < x → setA M S j ≤ n) (fun x => [(6, (.bool false)), (7, (.pointer (some ⟨b4, 0, none⟩))), (9, (.int .i64 (x : Int)))]) (fun _ => _) (fun x => [(b4, _), (b2, _), (b1, _)]) (fun x => R.lb - x) 0 ⟨by omega, fun j h => by omega⟩ ⟨rfl, rfl, rfl, trivial⟩ (fun w9 hs => hs) (fun x hF2 => ?_)
      refine ac_seq ?_
      refine ac_seq ?_
      refine ac_region ?_
      refine al_q (q_move rfl) rfl rfl rfl ?_
      refine al_q (q_fieldAddr 1 rfl Try.runUnderlying35 rfl Try.sizeOf32 (by decide) rfl) rfl rfl rfl ?_
      refine al_q (q_fieldAddr 2 rfl Try.runUnderlying32 rfl Try.sizeOf30 (by decide) rfl) rfl rfl rfl ?_
      refine al_q (q_load (i := 0) rfl rfl rfl Try.isAgg30) rfl rfl rfl ?_
      refine al_q (q_lenS rfl Try.runUnderlying30) rfl rfl rfl ?_
      refine al_q (q_lss rfl rfl) rfl rfl rfl ?_
      refine al_end ?_
      refine aq_then ?_
      refine ac_cond rfl (fun h6 => ?_) (fun h6 => ?_)
      · have hxl : x < R.lb := by have := of_decide_eq_true h6; omega
        obtain ⟨b61, o61, hA6, hlt6, hget6⟩ := X_y.cur.shells.2 (by omega)
        have hx6 := iA_get (l := (endD (coastE M (wt S S.tick) n) (coastD M (wt S S.tick) n.toNat)).C.shells) (k := x) (by omega)
        have hiff := calm_iff (hf.wt (t := S.tick) ⟨by omega, by omega⟩) hz (n := n) ⟨hn, by simp only [wt]; omega⟩ (k := x) (by omega)
        refine ac_skip ?_
        refine aq_then ?_
        refine ac_seq ?_
        refine ac_block ?_
        refine ac_seq ?_
        refine ac_region ?_
        refine al_q (q_fieldAddr 1 rfl Try.runUnderlying35 rfl Try.sizeOf32 (by decide) rfl) rfl rfl rfl ?_
        refine al_q (q_fieldAddr 2 rfl Try.runUnderlying32 rfl Try.sizeOf30 (by decide) rfl) rfl rfl rfl ?_
        refine al_q (q_load (i := 0) rfl rfl rfl Try.isAgg30) rfl rfl rfl ?_
        refine al_q (q_move rfl) rfl rfl rfl ?_
        refine al_q (q_indexAddrA (i := x) (o61 + x * 1 + 0) hA6 rfl rfl rfl (by omega) Try.runUnderlying30 Try.sizeOf3 rfl) rfl rfl rfl ?_
        refine al_q (q_loadX rfl Try.isAgg3 (fun w9 hs => (hs.cellOf (.head _) (N_y.b _ _ hA6) hlt6 (hget6 x _ hx6 0 _ rfl)))) rfl rfl rfl ?_
        refine al_q (q_neq rfl rfl) rfl rfl rfl ?_
        refine al_end ?_
        refine aq_then ?_
        refine ac_cond rfl (fun h7 => ?_) (fun h7 => ?_)
        · have hbig : ¬ ∀ j ∈ List.range R.lb, setA M S j ≤ n := fun h => by
            have h1 := hiff.2 (h x (List.mem_range.2 hxl))
            rw [hD, h1] at h7; simp at h7
          refine ac_seq ?_
          refine ac_region ?_
          refine al_q (q_assign rfl) rfl rfl rfl ?_
          refine al_end ?_
          refine aq_then ?_
          refine ac_ret ?_
          refine aq_inR ?_
          refine aq_thenR ?_
          refine aq_thenR ?_
          refine aq_inR ?_
          refine aq_thenR ?_
          refine ret1 Try.results25 rfl (fun w9 hs => ?_)
          rw [decide_eq_false hbig]; exact ⟨rfl, hs.below⟩
        · have hnew : setA M S x ≤ n := hiff.1 (by rw [hD] at h7; simpa using h7)
          refine ac_skip ?_
          refine aq_inN ?_
          refine aq_then ?_
          refine ac_region ?_
          refine al_q (q_move rfl) rfl rfl rfl ?_
          refine al_q (q_add rfl rfl (by omega)) rfl rfl rfl ?_
          refine al_q (q_assign rfl) rfl rfl rfl ?_
          refine al_end ?_
          refine aq_then ?_
          skip
          refine aq_round (x + 1) (by omega) ⟨by omega, upTo hF2.2 hnew⟩ ⟨rfl, rfl, rfl, trivial⟩ (fun w9 hs => hs)
      · have hxe : x = R.lb := by have := of_decide_eq_false h6; omega
        refine ac_exit ?_
        refine aq_thenE ?_
        refine aq_thenE ?_
        refine aq_hit ?_
        refine aq_then ?_
        refine aq_keepL [6] (.cons rfl .nil) ?_
        refine ac_seq ?_
        refine ac_region ?_
        refine al_q (q_assign rfl) rfl rfl rfl ?_
        refine al_end ?_
        refine aq_then ?_
        refine ac_ret ?_
        refine ret1 Try.results25 rfl (fun w9 hs => ?_)
        rw [decide_eq_true (fun j hj => hF2.2 j (by have := List.mem_range.1 hj; omega))]; exact ⟨rfl, hs.below⟩

theorem settle_ok {M : MachD} {S : StD} (h : (settleL M S).2 = 0) : FitS M S ∧ (settleL M S).1 = maxTo (setA M S) M.shells.length := by
  unfold settleL at h ⊢
  split at h
  · rename_i h1; rw [if_pos h1]; exact ⟨fitS_iff.1 h1, rfl⟩
  · cases h
theorem calm_yes (R : MachR) (M : MachD) (RS : StR) (S : StD) (n : Int) (w : World) (hM : IsM w R M) (hS : IsS w RS S) (hf : FitS M S) (hz : S.C.coils = zerosI M.coils.length) (hn0 : 0 ≤ n ∧ n ≤ 300) (h : ∀ j, j < M.shells.length → setA M S j ≤ n) : Calls Try.prog 25 #[.agg (machCells R M), RS.v S.tick, .int .i64 n] w (Ret (.bool true) w) := by
  have := calm_any R M RS S n w hM hS hf hz hn0
  rwa [decide_eq_true (fun j hj => h j (by have := List.mem_range.1 hj; have := hM.shells.1; omega))] at this
theorem calm_no (R : MachR) (M : MachD) (RS : StR) (S : StD) (n : Int) (w : World) (hM : IsM w R M) (hS : IsS w RS S) (hf : FitS M S) (hz : S.C.coils = zerosI M.coils.length) (hn0 : 0 ≤ n ∧ n ≤ 300) (h : ∃ j, j < M.shells.length ∧ n < setA M S j) : Calls Try.prog 25 #[.agg (machCells R M), RS.v S.tick, .int .i64 n] w (Ret (.bool false) w) := by
  have := calm_any R M RS S n w hM hS hf hz hn0
  rwa [decide_eq_false (fun g => by
    obtain ⟨j, h1, h2⟩ := h
    have := g j (List.mem_range.2 (by have := hM.shells.1; omega)); omega)] at this
def darkR (R : MachR) (RS : StR) (b : Nat) : StR := ⟨⟨some ⟨b, 0, none⟩, RS.Q.B, RS.Q.C, R.la, R.la, RS.Q.lb, RS.Q.cb, RS.Q.lc, RS.Q.cc⟩, RS.H, RS.T, RS.lh, RS.ch, RS.lt, RS.ct⟩
theorem dark_isS {w : World} {R : MachR} {M : MachD} {RS : StR} {S : StD} {b : Nat} (h : IsS w RS S) (hI : IsT 1 intCells w (some ⟨b, 0, none⟩) R.la (zerosI R.la)) (hl : M.coils.length = R.la) (hk : R.la ≤ 1000) : IsS w (darkR R RS b) (dark M S) := by
  unfold darkR dark
  rw [hl]
  exact ⟨⟨hI, h.cur.shells, h.cur.plasma, Nat.le_refl _, h.cur.lb, h.cur.lc, by simp only; omega, h.cur.cb, h.cur.cc, by simp only; omega, h.cur.kb, h.cur.kc⟩, h.heat, h.trip, h.lh, h.lt, h.ch, h.ct, h.kh, h.kt⟩

end Go.Proofs.Ytcjndnadibbcbaa
end
