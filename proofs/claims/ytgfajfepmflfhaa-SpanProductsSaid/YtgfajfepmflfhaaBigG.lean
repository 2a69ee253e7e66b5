/- Plain arithmetic of the division of numbers in digits of base 10,000, digit by digit. -/
import Derived.Test.YtgfajfepmflfhaaBigF
import Derived.Laws.AppendOwn
import Derived.Deep.AppendLies
namespace Go.Proofs.Ytgfajfepmflfhaa
set_option linter.unusedVariables false
set_option linter.unusedSimpArgs false
open Go.RowKit

/-- What is known while a number is divided digit by digit, from the highest: P is divided, O are the quotient's digits, R is the rest. -/
def DivI (P O : List Int) (B : Int) (i : Nat) (R : Int) : Prop :=
  O.length = P.length ∧ Digs O ∧ 0 ≤ R ∧ R < B ∧ val (P.drop i) = B * val (O.drop i) + R
theorem digs_zeros (n : Nat) : Digs (List.replicate n 0) := fun d h => by
  rw [(List.mem_replicate.1 h).2]; exact ⟨by decide, by decide⟩
theorem digs_set {O : List Int} {k : Nat} {v : Int} (h : Digs O) (h0 : 0 ≤ v) (h1 : v < 10000) : Digs (O.set k v) := fun d hd => by
  rcases List.mem_or_eq_of_mem_set hd with h2 | h2
  · exact h d h2
  · rw [h2]; exact ⟨h0, h1⟩
theorem divI_start (P : List Int) (B : Int) (hB : 0 < B) : DivI P (List.replicate P.length 0) B P.length 0 := by
  refine ⟨by simp, digs_zeros _, Int.le_refl _, hB, ?_⟩
  rw [List.drop_eq_nil_of_le (Nat.le_refl _), List.drop_eq_nil_of_le (by simp)]
  show (0 : Int) = B * 0 + 0
  omega
theorem divI_step {P O : List Int} {B R q : Int} {k : Nat} (hk : k < P.length) (h : DivI P O B (k + 1) R) (h0 : 0 ≤ q) (h1 : q < 10000)
    (l : B * q ≤ P.getD k 0 + 10000 * R) (u : P.getD k 0 + 10000 * R < B * (q + 1)) : DivI P (O.set k q) B k (P.getD k 0 + 10000 * R - B * q) := by
  obtain ⟨a, b, c, d, e⟩ := h
  refine ⟨by rw [List.length_set, a], digs_set b h0 h1, by omega, by rw [Int.mul_add, Int.mul_one] at u; omega, ?_⟩
  have hkO : k < (O.set k q).length := by rw [List.length_set, a]; exact hk
  rw [drop_step P k hk, drop_step (O.set k q) k hkO, e]
  have e1 : (O.set k q).getD k 0 = q := by
    rw [getD_set _ _ _ _ (by rw [a]; exact hk), if_pos rfl]
  have e2 : (O.set k q).drop (k + 1) = O.drop (k + 1) := by
    rw [List.drop_set, if_pos (by omega)]
  rw [e1, e2, Int.mul_add B q, ← Int.mul_assoc B 10000, Int.mul_comm B 10000, Int.mul_assoc 10000 B, Int.mul_add]
  omega
theorem divI_end {P O : List Int} {B R : Int} (h : DivI P O B 0 R) : val O = val P / B ∧ R = val P % B := by
  obtain ⟨a, b, c, d, e⟩ := h
  rw [List.drop_zero, List.drop_zero] at e
  rw [e, Int.mul_add_ediv_left _ _ (by omega), Int.ediv_eq_zero_of_lt c d, Int.add_zero, Int.mul_add_emod_self_left, Int.emod_eq_of_lt c d]
  exact ⟨rfl, rfl⟩
theorem ediv_neg_up (m B : Int) (hB : 0 < B) : (-m) / B = -(m / B + if 0 < m % B then 1 else 0) := by
  have e := Int.mul_ediv_add_emod m B
  have m0 := Int.emod_nonneg m (show B ≠ 0 by omega)
  have m1 := Int.emod_lt_of_pos m hB
  by_cases h : 0 < m % B
  · rw [if_pos h]
    have e1 : -m = (B - m % B) + B * -(m / B + 1) := by rw [Int.mul_neg, Int.mul_add, Int.mul_one]; omega
    rw [e1, Int.add_mul_ediv_left _ _ (show B ≠ 0 by omega), Int.ediv_eq_zero_of_lt (by omega) (by omega), Int.zero_add]
  · rw [if_neg h]
    have e1 : -m = B * -(m / B) := by rw [Int.mul_neg]; omega
    rw [e1, Int.mul_ediv_cancel_left _ (show B ≠ 0 by omega), Int.add_zero]
theorem floor_same {a b : Int} (hb : b ≠ 0) (h : (decide (a < 0) == decide (b < 0)) = true ∨ a = 0) : max a (-a) / max b (-b) = flo a b := by
  unfold flo
  rcases h with h | h
  · have h := beq_iff_eq.1 h
    by_cases h0 : b < 0
    · have : a < 0 := by rw [decide_eq_true h0] at h; exact of_decide_eq_true h
      rw [if_neg (by omega), show max a (-a) = -a by omega, show max b (-b) = -b by omega]
    · have : ¬a < 0 := by rw [decide_eq_false h0] at h; exact of_decide_eq_false h
      rw [if_pos (by omega), show max a (-a) = a by omega, show max b (-b) = b by omega]
  · subst h
    split <;> simp
theorem floor_diff {a b : Int} (hb : b ≠ 0) (h : (decide (a < 0) == decide (b < 0)) = false) : -(max a (-a) / max b (-b) + if 0 < max a (-a) % max b (-b) then 1 else 0) = flo a b := by
  rw [← ediv_neg_up _ _ (show 0 < max b (-b) by omega)]
  unfold flo
  have h := beq_eq_false_iff_ne.1 h
  by_cases h0 : b < 0
  · have : ¬a < 0 := fun h1 => h (by rw [decide_eq_true h0, decide_eq_true h1])
    rw [if_neg (show ¬0 < b by omega), show max a (-a) = a by omega, show max b (-b) = -b by omega]
  · have : a < 0 := by
      rcases Int.lt_or_le a 0 with h1 | h1
      · exact h1
      · exact absurd (by rw [decide_eq_false h0, decide_eq_false (by omega)]) h
    rw [if_pos (show 0 < b by omega), show max a (-a) = -a by omega, show max b (-b) = b by omega, Int.neg_neg]

/-- append of a list of ints to one int that lies in a block of its own, as a step of a region. -/
theorem prepend_step {ops : Array Oper} {o : Oper} {a : Act} {K : Act → World → Prop} {Q : Exit → Act → World → Prop} {E : Prop} (w : World) (hgd : o.guard = none) (s x : Operand)
    (ho : o.op = .call { callee := .builtin .append, args := #[s, x], argTypes := #[39, 39] })
    (g : Nat) (d : Int) (hs : a.eval s = .slice (some ⟨g, 0, none⟩) 1 1) (hblk : w.heap[g]? = some (.cells #[.int .i64 d] 3 (0, 0)))
    (A : Option Addr) (k c : Nat) (R : List Int) (hx : a.eval x = .slice A k c) (hR : IsI w 0 A k R) (hk : k ≤ 64)
    (h : ∀ (A' : Option Addr) (cap' : Nat) w', IsI w' g A' (k + 1) (d :: R) → k + 1 ≤ cap' → Below g w w' → K (a.put o.dst (.slice A' (k + 1) cap')) w') :
    if Region.wanted o (yielded ops a.tmps) = true then Oper.wp Try.prog o a w K Q else E := by
  have hw : Region.wanted o (yielded ops a.tmps) = true := by simp [Region.wanted, hgd]
  rw [if_pos hw]
  have hlt : g < w.heap.size := by
    rcases Nat.lt_or_ge g w.heap.size with h1 | h1
    · exact h1
    · rw [Array.getElem?_eq_none h1] at hblk; cases hblk
  have hown : w.ownsRow g 3 1 (.slice (some ⟨g, 0, none⟩) 1 1) 1 [.int .i64 d] :=
    ⟨rfl, .inr ⟨g, 1, #[.int .i64 d], rfl, Nat.le_refl _, hblk, Nat.le_refl _, by decide, rfl, rfl⟩⟩
  have hI0 : (Try.prog.info? 3).map (fun i => (i.zero, i.size, i.bytes)) = some (some (.int .i64 0), 1, 8) := by kernel_rfl
  obtain ⟨i0, hi, hz0, hz1, hz2⟩ := info_parts hI0
  have fin : ∀ v' w', w'.ownsRow g 3 1 v' (1 + k) ([.int .i64 d] ++ R.map (Value.int .i64)) → w.grownBy w' (Value.slice (some ⟨g, 0, none⟩) 1 1).ownBlock → K (a.put o.dst v') w' := by
    intro v' w' h2 h3
    obtain ⟨A', cap', rfl, hc, hI⟩ := isI_of_own (P := d :: R) h2
    rw [Nat.add_comm 1 k] at hI hc ⊢
    exact h A' cap' w' hI hc (below_grownB (Below.refl _ _) hown h3 (by omega))
  rcases A with _ | ad
  · have k0 : k = 0 := by
      rcases Nat.eq_zero_or_pos k with h1 | h1
      · exact h1
      · obtain ⟨b, ob, e, _⟩ := hR.2 h1
        cases e
    subst k0
    have hr : (Builtin.append_ #[39, 39] o.type #[.slice (some ⟨g, 0, none⟩) 1 1, .slice none 0 c]).run Try.prog w = .ok (.slice (some ⟨g, 0, none⟩) 1 1) w := by
      simp [Builtin.append_, run_underlying Try.underlying39, sizeOf, typeInfo, hi, Builtin.lenOf, Builtin.firstCells, storeCells]
    unfold Oper.wp execOp
    simp only [ho, resolve, invoke, builtin, Sem.run_bind, Sem.run_pure, Result.andThen_ok, List.map_toArray, List.map_cons, List.map_nil, hs, hx, hr]
    have hl : R = [] := List.eq_nil_of_length_eq_zero hR.1
    subst hl
    exact h (some ⟨g, 0, none⟩) 1 w ⟨rfl, fun _ => ⟨g, 0, rfl, Nat.le_refl _, hlt, fun j hj => by
      rw [cell_of_row w g (0 + j) _ _ _ hblk]
      rw [show j = 0 by omega]
      rfl⟩⟩ (Nat.le_refl _) (Below.refl _ _)
  · refine wp_append_own w s x 39 ho g 3 i0 (.int .i64 0) 1 8 Try.underlying39 hi hz0 hz1 hz2 rfl (by decide) _ 1 _ hs hown ad k c (R.map (Value.int .i64)) hx (by rw [List.length_map, hR.1]; omega) (fun j u hu => ?_) (fun u hu => ?_) (by unfold maxLen; omega) (by omega) (by omega) (fun v' w' h2 h3 _ => fin v' w' h2 h3)
    · obtain ⟨hj, hju⟩ := List.getElem?_eq_some_iff.1 hu
      rw [List.length_map, hR.1] at hj
      obtain ⟨b, ob, e, _, _, hc⟩ := hR.2 (by omega)
      injection e with e
      subst e
      have hadd : (⟨b, ob, none⟩ : Addr).add j = ⟨b, ob + j, none⟩ := by unfold Addr.add; split <;> simp_all
      rw [hadd, hc j hj, ← hju, List.getElem_map, List.getD_eq_getElem?_getD, List.getElem?_eq_getElem (by rw [hR.1]; exact hj)]
      rfl
    · obtain ⟨n, _, rfl⟩ := List.mem_map.1 hu
      rfl

end Go.Proofs.Ytgfajfepmflfhaa
