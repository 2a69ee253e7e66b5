import Derived.Test.YtkhahbnagbjbiaaGreatNAP
import Derived.Test.YtkhahbnagbjbiaaGreatNBJ
import Derived.Test.YtkhahbnagbjbiaaGreatRows
import Derived.KernelRfl
import Derived.Laws.StructEq
section
/- Package circuit: Applied, Induced, Quench, over this seat's translation (written by ax_ci20.py). -/
namespace Go.Proofs.YtkhahbnagbjbiaaGreat
set_option linter.unusedVariables false
set_option linter.unusedSimpArgs false
open Go.RowKit

def OutL (w : World) (k : Int) (zs : List Int) (e : Ending) (w' : World) : Prop :=
  ∃ (A : Option Addr) (n c : Nat), e = .returned (.tuple #[.slice A n c, .int .i64 k]) ∧ IsT 1 intCells w' A n (if k = 0 then zs else []) ∧ (∀ b o, A = some ⟨b, o, none⟩ → w.heap.size ≤ b) ∧ n ≤ 1000000 ∧ Below w.heap.size w w'
theorem OutL.bad {w w' : World} {k : Int} {zs : List Int} (hk : k ≠ 0) (hb : Below w.heap.size w w') : OutL w k zs (.returned (.tuple #[.slice none 0 0, .int .i64 k])) w' :=
  ⟨none, 0, 0, rfl, by rw [if_neg hk]; exact ⟨rfl, fun h => absurd h (by omega)⟩, (fun b o e => by cases e), by omega, hb⟩
theorem OutL.ok {w w' : World} {A : Option Addr} {n c : Nat} {zs : List Int} (hN : NewT 1 intCells w.heap.size w' A n c zs) (hn : n ≤ 1000000) (hb : Below w.heap.size w w') : OutL w 0 zs (.returned (.tuple #[.slice A n c, .int .i64 0])) w' :=
  ⟨A, n, c, rfl, by rw [if_pos rfl]; exact hN.isT, hN.new, hn, hb⟩
end Go.Proofs.YtkhahbnagbjbiaaGreat
end
section
/- Settle on both sides, over this seat's translation (written by ax_ci16.py). -/
namespace Go.Proofs.YtkhahbnagbjbiaaGreat
set_option linter.unusedVariables false
set_option linter.unusedSimpArgs false
open Go.RowKit

theorem lost_p {n m : Int} (hn : -1000000 ≤ n ∧ n ≤ 1000000) (hm : 1 ≤ m ∧ m ≤ 1000) : 0 ≤ max n (-n) * m ∧ max n (-n) * m ≤ 1000000000 ∧ max n (-n) * m ≤ max n (-n) * 1000 := by
  have h0 : 0 ≤ max n (-n) ∧ max n (-n) ≤ 1000000 := by omega
  have h1 := mulP_bd (x := max n (-n)) (y := m) (X := 1000000) (Y := 1000) h0 ⟨by omega, by omega⟩
  exact ⟨Int.mul_nonneg h0.1 (by omega), by omega, Int.mul_le_mul_of_nonneg_left hm.2 h0.1⟩
theorem lost_in {n m : Int} (hn : -1000000 ≤ n ∧ n ≤ 1000000) (hm : 1 ≤ m ∧ m ≤ 1000) : -1000000 ≤ n - lostI n m ∧ n - lostI n m ≤ 1000000 ∧ -1000000 ≤ lostI n m ∧ lostI n m ≤ 1000000 := by
  have := lost_bd (cur := n) hm
  omega

set_option maxRecDepth 100000 in
theorem rsize3_any (n : Int) (w : World) (hn : -1000000 ≤ n ∧ n ≤ 1000000) : Calls Tryz.prog 46 #[(.int .i64 n)] w (Ret (.int .i64 (max n (-n))) w) := by
  refine calls_ax (vs := [(.int .i64 n)]) Tryz.func46 rfl rfl ?_
  refine ac_seq (ac_region ?_)
  refine al_p (q_assign rfl) ?_
  refine al_end (aq_then ?_)
  refine ac_seq ?_
  refine ac_seq (ac_region ?_)
  refine al_p (q_move rfl) ?_
  refine al_p (q_lss rfl rfl) ?_
  refine al_end (aq_then ?_)
  refine ac_cond rfl (fun h1 => ?_) (fun h1 => ?_)
  · have g1 := of_decide_eq_true h1
    have e1 : max n (-n) = -n := by omega
    refine ac_seq (ac_region ?_)
    refine al_p (q_move rfl) ?_
    refine al_p (q_neg rfl (by omega)) ?_
    refine al_p (q_assign rfl) ?_
    refine al_end (aq_then ?_)
    refine ac_ret ?_
    refine aq_thenR ?_
    refine ret1 Tryz.results46 rfl (fun w9 hs => ?_)
    rw [e1]; exact ⟨rfl, hs.below⟩
  · have g1 := of_decide_eq_false h1
    have e1 : max n (-n) = n := by omega
    refine ac_skip ?_
    refine aq_then ?_
    refine ac_seq (ac_region ?_)
    refine al_p (q_move rfl) ?_
    refine al_p (q_assign rfl) ?_
    refine al_end (aq_then ?_)
    refine ac_ret ?_
    refine ret1 Tryz.results46 rfl (fun w9 hs => ?_)
    rw [e1]; exact ⟨rfl, hs.below⟩

set_option maxRecDepth 100000 in
theorem rlost3_any (n m : Int) (w : World) (hn : -1000000 ≤ n ∧ n ≤ 1000000) (hm : 1 ≤ m ∧ m ≤ 1000) : Calls Tryz.prog 60 #[(.int .i64 n), (.int .i64 m)] w (Ret (.int .i64 (lostI n m)) w) := by
  obtain ⟨p1, p2, p3⟩ := lost_p hn hm
  have he : max n (-n) * m + 1000 - 1 = max n (-n) * m + 999 := by omega
  have hq : 0 ≤ (max n (-n) * m + 999).tdiv 1000 ∧ (max n (-n) * m + 999).tdiv 1000 ≤ max n (-n) := by rw [Int.tdiv_eq_ediv_of_nonneg (by omega)]; omega
  refine calls_ax (vs := [(.int .i64 n), (.int .i64 m)]) Tryz.func60 rfl rfl ?_
  refine ac_seq (ac_region ?_)
  refine al_p (q_assign rfl) ?_
  refine al_end (aq_then ?_)
  refine ac_seq (ac_region ?_)
  refine al_p (q_move rfl) ?_
  refine al_call Tryz.call46 (.cons rfl .nil) rfl rfl (fun w1 hs1 => ?_)
  refine (rsize3_any n _ hn).mono ?_
  rintro e u1 ⟨rfl, hb_1⟩
  refine ⟨_, rfl, hb_1, ?_⟩
  clear hs1
  refine al_p (q_move rfl) ?_
  refine al_p (q_mul rfl rfl (by omega)) ?_
  refine al_p (q_add rfl rfl (by omega)) ?_
  refine al_p (q_quo rfl rfl (by omega)) ?_
  refine al_p (q_assign rfl) ?_
  refine al_end (aq_then ?_)
  refine ac_seq ?_
  refine ac_seq (ac_region ?_)
  refine al_p (q_move rfl) ?_
  refine al_p (q_move rfl) ?_
  refine al_call Tryz.call46 (.cons rfl .nil) rfl rfl (fun w2 hs2 => ?_)
  refine (rsize3_any n _ hn).mono ?_
  rintro e u2 ⟨rfl, hb_2⟩
  refine ⟨_, rfl, hb_2, ?_⟩
  clear hs2
  refine al_p (q_gtr rfl rfl) ?_
  refine al_end (aq_then ?_)
  refine ac_cond rfl (fun h1 => ?_) (fun h1 => ?_)
  · exfalso; have := of_decide_eq_true h1; omega
  · skip
    refine ac_skip ?_
    refine aq_then ?_
    refine ac_seq ?_
    refine ac_seq (ac_region ?_)
    refine al_p (q_move rfl) ?_
    refine al_p (q_lss rfl rfl) ?_
    refine al_end (aq_then ?_)
    refine ac_cond rfl (fun h2 => ?_) (fun h2 => ?_)
    · refine ac_seq (ac_region ?_)
      refine al_p (q_move rfl) ?_
      refine al_p (q_neg rfl (by omega)) ?_
      refine al_p (q_assign rfl) ?_
      refine al_end (aq_then ?_)
      refine ac_ret ?_
      refine aq_thenR ?_
      refine ret1 Tryz.results60 rfl (fun w9 hs => ?_)
      exact ⟨by rw [lostI, if_pos (by have := of_decide_eq_true h2; omega), he], hs.below⟩
    · refine ac_skip ?_
      refine aq_then ?_
      refine ac_seq (ac_region ?_)
      refine al_p (q_move rfl) ?_
      refine al_p (q_assign rfl) ?_
      refine al_end (aq_then ?_)
      refine ac_ret ?_
      refine ret1 Tryz.results60 rfl (fun w9 hs => ?_)
      exact ⟨by rw [lostI, if_neg (by have := of_decide_eq_false h2; omega), he], hs.below⟩

end Go.Proofs.YtkhahbnagbjbiaaGreat
end
section
/- The mirrored tick, as plain functions, over this seat's translation (written by ax_ci18.py). -/
namespace Go.Proofs.YtkhahbnagbjbiaaGreat
set_option linter.unusedVariables false
set_option linter.unusedSimpArgs false
open Go.RowKit

theorem iA_eq (l : List Int) (k : Nat) : iA l k = l[k]?.getD 0 := by simp [iA, List.getD_eq_getElem?_getD]
theorem iA_app {co ce : List Int} (k : Nat) : iA (co ++ ce) (co.length + k) = iA ce k := by
  rw [iA_eq, iA_eq, List.getElem?_append_right (by omega), Nat.add_sub_cancel_left]
theorem iA_left {co ce : List Int} {k : Nat} (h : k < co.length) : iA (co ++ ce) k = iA co k := by
  rw [iA_eq, iA_eq, List.getElem?_append_left h]
end Go.Proofs.YtkhahbnagbjbiaaGreat
end
