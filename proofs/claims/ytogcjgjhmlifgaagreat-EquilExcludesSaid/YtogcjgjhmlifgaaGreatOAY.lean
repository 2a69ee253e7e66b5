import Derived.Test.YtogcjgjhmlifgaaGreatOAA
import Derived.Test.YtogcjgjhmlifgaaGreatOAK
import Derived.Test.YtogcjgjhmlifgaaGreatOAX
import Derived.Test.YtogcjgjhmlifgaaGreatRows
import Derived.KernelRfl
import Derived.Laws.StructEq
namespace Go.Proofs.YtogcjgjhmlifgaaGreat
set_option linter.unusedVariables false
set_option linter.unusedSimpArgs false
section
open Go.RowKit
set_option maxRecDepth 100000 in
theorem within5_any (n a b : Int) (w : World) : Calls Tryz.prog 46 #[(.int .i64 n), (.int .i64 a), (.int .i64 b)] w (Ret (.bool (wthn n a b)) w) := by
  refine calls_ax (vs := [(.int .i64 n), (.int .i64 a), (.int .i64 b)]) Tryz.func46 rfl rfl ?_
  refine ac_seq (ac_region ?_)
  refine al_p (q_assign rfl) (al_end (aq_then ?_))
  refine ac_seq (ac_region ?_)
  refine al_p (q_move rfl) (al_p (q_move rfl) (al_p (q_leq rfl rfl) (al_p (q_move rfl) ?_)))
  refine aq_split 10 rfl (fun hb1 => ?_) (fun hb1 => ?_)
  · refine al_p (q_move rfl) (al_p (q_move rfl) (al_p (q_leq rfl rfl) (al_p (q_pickT rfl rfl) (al_p (q_assign rfl) ?_))))
    refine al_end (aq_then ?_)
    refine ac_ret (ret1 Tryz.results46 rfl (fun w9 hs => ?_))
    refine ⟨?_, hs.below⟩; first | (simp_all [wthn]; done) | (simp_all [wthn]; omega)
  · refine al_skip rfl rfl rfl (al_skip rfl rfl rfl (al_skip rfl rfl rfl (al_p (q_pickF rfl rfl) (al_p (q_assign rfl) ?_))))
    refine al_end (aq_then ?_)
    refine ac_ret (ret1 Tryz.results46 rfl (fun w9 hs => ?_))
    refine ⟨?_, hs.below⟩; first | (simp_all [wthn]; done) | (simp_all [wthn]; omega)
set_option maxRecDepth 100000 in
theorem total5_any (n : Int) (w : World) : Calls Tryz.prog 47 #[(.int .i64 n)] w (Ret (.bool (wthn n 1 1000000)) w) := by
  refine calls_ax (vs := [(.int .i64 n)]) Tryz.func47 rfl rfl ?_
  refine ac_seq (ac_region ?_)
  refine al_p (q_assign rfl) (al_end (aq_then ?_))
  refine ac_seq (ac_region ?_)
  refine al_p (q_move rfl) (al_call Tryz.call46 (.cons rfl (.cons rfl (.cons rfl .nil))) rfl rfl (fun w1 hs1 => ?_))
  refine (within5_any n 1 1000000 _).mono ?_
  rintro e u1 ⟨rfl, hb_1⟩
  refine ⟨_, rfl, hb_1, ?_⟩
  clear hs1
  refine al_p (q_assign rfl) (al_end (aq_then ?_))
  refine ac_ret (ret1 Tryz.results47 rfl (fun w9 hs => ?_))
  exact ⟨rfl, hs.below⟩
def chkE (v r : Bool) : Int := if v = true then (if r = true then 0 else 7) else 1
set_option maxRecDepth 100000 in
theorem chk5_any (v r : Bool) (w : World) : Calls Tryz.prog 50 #[(.bool v), (.bool r)] w (Ret (.int .i64 (chkE v r)) w) := by
  refine calls_ax (vs := [(.bool v), (.bool r)]) Tryz.func50 rfl rfl ?_
  refine ac_seq (ac_region ?_)
  refine al_p (q_assign rfl) (al_end (aq_then ?_))
  refine ac_seq (ac_block (ac_seq (ac_region ?_)))
  refine al_p (q_move rfl) (al_p (q_not rfl) (al_p (q_assign rfl) (al_end (aq_then ?_))))
  refine ac_cond rfl (fun h1 => ?_) (fun h1 => ?_)
  · refine ac_seq (ac_region ?_)
    refine al_p (q_assign rfl) (al_end (aq_then ?_))
    refine ac_ret (aq_inR (aq_thenR (ret1 Tryz.results50 rfl (fun w9 hs => ?_))))
    refine ⟨?_, hs.below⟩; simp_all [chkE]
  · refine ac_seq (ac_region ?_)
    refine al_p (q_move rfl) (al_p (q_not rfl) (al_p (q_assign rfl) (al_end (aq_then ?_))))
    refine ac_cond rfl (fun h2 => ?_) (fun h2 => ?_)
    · refine ac_seq (ac_region ?_)
      refine al_p (q_assign rfl) (al_end (aq_then ?_))
      refine ac_ret (aq_inR (aq_thenR (ret1 Tryz.results50 rfl (fun w9 hs => ?_))))
      refine ⟨?_, hs.below⟩; simp_all [chkE]
    · refine ac_skip (aq_inN (aq_then (ac_seq (ac_region ?_))))
      refine al_p (q_assign rfl) (al_end (aq_then ?_))
      refine ac_ret (ret1 Tryz.results50 rfl (fun w9 hs => ?_))
      refine ⟨?_, hs.below⟩; simp_all [chkE]
def badX (t : Int) (a : SpanD) : Bool := decide (a.lo < 0) || (decide (a.hi < a.lo) || decide (t < a.hi))
theorem boxB_yes {M : MachD} {t : Int} {xs : List SpanD} (h1 : checkC M = 0) (h2 : xs.length = cellN M) (h3 : ∀ j, j < xs.length → badX t (spA xs j) = false) : boxB M t xs = true := by
  unfold boxB
  have h4 : (xs.any fun a => decide (a.lo < 0) || (decide (a.hi < a.lo) || decide (t < a.hi))) = false := by
    rw [List.any_eq_false]
    intro a ha
    obtain ⟨j, hj, rfl⟩ := List.mem_iff_getElem.1 ha
    have h5 := h3 j hj
    rw [spA_of (List.getElem?_eq_getElem hj)] at h5
    simpa [badX] using h5
  simp [h1, h2, h4]
theorem boxB_no {M : MachD} {t : Int} {xs : List SpanD} {j : Nat} (hj : j < xs.length) (h : badX t (spA xs j) = true) : boxB M t xs = false := by
  rw [Bool.eq_false_iff]
  intro hb
  have h1 := (boxB_iff.1 hb).each _ (spA_mem hj)
  simp only [badX, Bool.or_eq_true, decide_eq_true_eq] at h
  omega
theorem boxB_bad {M : MachD} {t : Int} {xs : List SpanD} (h : checkC M ≠ 0 ∨ xs.length ≠ cellN M) : boxB M t xs = false := by
  rw [Bool.eq_false_iff]
  intro hb
  have h1 := boxB_iff.1 hb
  exact h.elim (fun h => h h1.check) (fun h => h h1.len)
theorem pcellsB_any (R : MachR) (M : MachD) (w : World) (hM : IsM w R M) : Calls Tryz.prog 93 #[.agg (mCs R M).toArray] w (Ret (.int .i64 (cellsN M)) w) := mcells_any R M w hM
theorem pcheck_any (R : MachR) (M : MachD) (w : World) (hM : IsM w R M) : Calls Tryz.prog 88 #[.agg (mCs R M).toArray] w (Ret (.int .i64 (checkC M)) w) := check_any R M w hM
theorem pvalid_any (R : MachR) (M : MachD) (Q : CurR) (C : CurD) (w : World) (hM : IsM w R M) (hC : IsC w Q C) : Calls Tryz.prog 42 #[.agg (mCs R M).toArray, .agg (cCs Q).toArray] w (Ret (.bool (validC M C)) w) := validCurrents_any R M Q C w hM hC
set_option maxRecDepth 100000 in
theorem validBox_any (R : MachR) (M : MachD) (X : Option Addr) (nx cx : Nat) (xs : List SpanD) (t : Int) (w : World) (hM : IsM w R M) (hS : IsT 2 SpanD.cells w X nx xs) : Calls Tryz.prog 51 #[(.agg (mCs R M).toArray), (.int .i64 t), (.slice X nx cx)] w (Ret (.bool (boxB M t xs)) w) := by
  have n1 := hS.1
  refine calls_ax (vs := [(.agg (mCs R M).toArray), (.int .i64 t), (.slice X nx cx)]) Tryz.func51 rfl rfl ?_
  refine ac_seq (ac_region ?_)
  refine al_new (fun b => .pointer (some ⟨b, 0, none⟩)) (r_box rfl rfl) rfl rfl rfl ?_
  intro b1
  refine al_new (fun b => .pointer (some ⟨b, 0, none⟩)) (r_box rfl rfl) rfl rfl rfl ?_
  intro b2
  refine al_p (q_assign rfl) (al_end (aq_then ?_))
  refine ac_seq (ac_region ?_)
  refine al_p (q_loadAll (i := 1) rfl rfl Tryz.isAgg29 Tryz.sizeOf29 rfl) (al_call Tryz.call88 (.cons rfl .nil) rfl rfl (fun w1 hs1 => ?_))
  refine (pcheck_any R M _ (hM.below hs1.below)).mono ?_
  rintro e u1 ⟨rfl, hb_1⟩
  refine ⟨_, rfl, hb_1, ?_⟩
  clear hs1
  refine al_p (q_eql rfl rfl) (al_p (q_move rfl) ?_)
  refine aq_split 10 rfl (fun hb1 => ?_) (fun hb1 => ?_)
  · have hc : checkC M = 0 := by simpa using hb1
    have hcn := cellN_eq hc
    have hcs : cellsN M = (cellN M : Int) := by unfold cellsN; rw [if_pos hc, hcn.1]
    refine al_p (q_move rfl) (al_p (q_lenS rfl Tryz.runUnderlying45) (al_p (q_loadAll (i := 1) rfl rfl Tryz.isAgg29 Tryz.sizeOf29 rfl) (al_call Tryz.call93 (.cons rfl .nil) rfl rfl (fun w2 hs2 => ?_))))
    refine (pcellsB_any R M _ (hM.below hs2.below)).mono ?_
    rintro e u2 ⟨rfl, hb_2⟩
    refine ⟨_, rfl, hb_2, ?_⟩
    clear hs2
    refine al_p (q_eql rfl rfl) (al_p (q_pickT rfl rfl) (al_p (q_move rfl) ?_))
    refine aq_split 17 rfl (fun hb2 => ?_) (fun hb2 => ?_)
    · have hnx : nx = cellN M := by rw [hcs] at hb2; simp at hb2; omega
      refine al_p (q_move rfl) (al_p (q_makeFunc _ _ .nil (.cons rfl .nil)) (al_inl Tryz.call94 (.cons rfl (.cons rfl .nil)) rfl rfl Tryz.func94 rfl rfl ?_))
      refine ac_seq (ac_region ?_)
      refine al_p (q_assign rfl) (al_end (aq_then ?_))
      refine ac_seq (ac_region ?_)
      refine al_p (q_move rfl) (al_p (q_move rfl) (al_inl Tryz.call149 (.cons rfl (.cons rfl .nil)) rfl rfl Tryz.func149 rfl rfl ?_))
      refine ac_seq (ac_region ?_)
      refine al_p (q_assign rfl) (al_end (aq_then ?_))
      refine ac_seq (ac_seq (ac_region ?_))
      refine al_p (q_move rfl) (al_p (q_lenS rfl Tryz.runUnderlying45) (al_p (q_move rfl) (al_end (aq_then ?_))))
      refine ac_block (ac_loop (β := Nat) (fun k => k ≤ nx ∧ ∀ j, j < k → badX t (spA xs j) = false) (fun k => [(0, (.slice X nx cx)), (1, (.func (.func 95) #[] #[.pointer (some ⟨b2, 0, none⟩)])), (4, (.int .i64 0)), (7, (.int .i64 (nx : Int))), (8, (.int .i64 (k : Int)))]) (fun _ => _) (fun k => [(b2, _), (b1, _)]) (fun k => nx - k) 0 ⟨by omega, fun j h => by omega⟩ ⟨rfl, rfl, rfl, rfl, rfl, trivial⟩ (fun w9 hs => hs) (fun k hF1 => ?_))
      refine ac_seq (ac_region ?_)
      refine al_p (q_lss rfl rfl) (al_end (aq_then ?_))
      refine ac_seq ?_
      refine ac_cond rfl (fun h1 => ?_) (fun h1 => ?_)
      · have hkn : k < nx := by have := of_decide_eq_true h1; omega
        obtain ⟨b11, o11, hA1, hlt1, hget1⟩ := hS.2 (by omega)
        have hx1 := spA_get (x := xs) (k := k) (by omega)
        refine ac_skip (aq_then (ac_seq (ac_block (ac_seq (ac_region ?_)))))
        refine al_p (q_move rfl) (al_p (q_assign rfl) (al_end (aq_then ?_)))
        refine ac_seq (ac_region ?_)
        refine al_p (q_move rfl) (al_p (q_move rfl) (al_p (q_move rfl) ?_))
        refine al_p (q_indexAddrA (i := k) (o11 + k * 2 + 0) hA1 rfl rfl rfl (by omega) Tryz.runUnderlying45 Tryz.sizeOf52 rfl) (al_p (q_loadXs (SpanD.cells (spA xs k)) rfl Tryz.isAgg52 Tryz.sizeOf52 (fun w9 hs j9 v9 h9 => by rw [addr_add]; exact (hs.below.cell (p := ⟨_, _, none⟩) hlt1).trans ((hget1 k _ hx1) j9 v9 h9)) rfl) (al_inlV (fi := []) (ca := [(.pointer (some ⟨b2, 0, none⟩))]) rfl Tryz.call95 (.cons rfl .nil) rfl rfl Tryz.func95 rfl rfl ?_))
        refine ac_seq (ac_region ?_)
        refine al_new (fun b => .pointer (some ⟨b, 0, none⟩)) (r_box rfl rfl) rfl rfl rfl ?_
        intro b3
        refine al_p (q_assign rfl) (al_end (aq_then ?_))
        refine ac_seq (ac_region ?_)
        refine al_p (q_fieldAddr 0 rfl Tryz.runUnderlying52 rfl Tryz.sizeOf3 (by decide) rfl) (al_p (q_load (i := 0) rfl rfl rfl Tryz.isAgg3) (al_p (q_lss rfl rfl) (al_p (q_move rfl) ?_)))
        refine aq_split 7 rfl (fun hb3 => ?_) (fun hb3 => ?_)
        · have g7 := of_decide_eq_true hb3
          have hbd : badX t (spA xs k) = true := by simp [badX]; omega
          have hE : boxB M t xs = false := boxB_no (j := k) (by omega) hbd
          refine al_skip rfl rfl rfl (al_skip rfl rfl rfl (al_skip rfl rfl rfl (al_skip rfl rfl rfl (al_skip rfl rfl rfl ?_))))
          refine al_p (q_pickT rfl rfl) (al_p (q_move rfl) (al_skip rfl rfl rfl (al_skip rfl rfl rfl (al_skip rfl rfl rfl ?_))))
          refine al_skip rfl rfl rfl (al_p (q_pickT rfl rfl) (al_p (q_assign rfl) (al_end (aq_then ?_))))
          refine ac_ret (retI Tryz.results95 (.tmp rfl .nil) .one ?_)
          refine al_end (aq_then ?_)
          refine ac_condT rfl (ac_seq (ac_region ?_))
          refine al_p (q_move rfl) (al_p (q_assign rfl) (al_end (aq_then ?_)))
          refine ac_ret (aq_inR (aq_thenR (aq_thenR (aq_inR ?_))))
          refine aq_thenR (retI Tryz.results149 (.tmp rfl .nil) .one ?_)
          refine al_p (q_geq rfl rfl) (al_p (q_assign rfl) (al_end (aq_then ?_)))
          refine ac_ret (retI Tryz.results94 (.tmp rfl .nil) .one ?_)
          refine al_p (q_not rfl) (al_p (q_pickT rfl rfl) (al_p (q_assign rfl) (al_end (aq_then ?_))))
          refine ac_ret (ret1 Tryz.results51 rfl (fun w9 hs => ?_))
          rw [hE, show decide (((k : Nat) : Int) ≥ 0) = true from decide_eq_true (by omega)]; exact ⟨rfl, hs.below⟩
        · have g7 := of_decide_eq_false hb3
          refine al_p (q_fieldAddr 0 rfl Tryz.runUnderlying52 rfl Tryz.sizeOf3 (by decide) rfl) (al_p (q_load (i := 0) rfl rfl rfl Tryz.isAgg3) ?_)
          refine al_p (q_fieldAddr 1 rfl Tryz.runUnderlying52 rfl Tryz.sizeOf3 (by decide) rfl) (al_p (q_load (i := 0) rfl rfl rfl Tryz.isAgg3) (al_p (q_gtr rfl rfl) (al_p (q_pickF rfl rfl) (al_p (q_move rfl) ?_))))
          refine aq_split 14 rfl (fun hb4 => ?_) (fun hb4 => ?_)
          · have g14 := of_decide_eq_true hb4
            have hbd : badX t (spA xs k) = true := by simp [badX]; omega
            have hE : boxB M t xs = false := boxB_no (j := k) (by omega) hbd
            refine al_skip rfl rfl rfl (al_skip rfl rfl rfl (al_skip rfl rfl rfl (al_skip rfl rfl rfl (al_p (q_pickT rfl rfl) ?_))))
            refine al_p (q_assign rfl) (al_end (aq_then ?_))
            refine ac_ret (retI Tryz.results95 (.tmp rfl .nil) .one ?_)
            refine al_end (aq_then ?_)
            refine ac_condT rfl (ac_seq (ac_region ?_))
            refine al_p (q_move rfl) (al_p (q_assign rfl) (al_end (aq_then ?_)))
            refine ac_ret (aq_inR (aq_thenR (aq_thenR (aq_inR ?_))))
            refine aq_thenR (retI Tryz.results149 (.tmp rfl .nil) .one ?_)
            refine al_p (q_geq rfl rfl) (al_p (q_assign rfl) (al_end (aq_then ?_)))
            refine ac_ret (retI Tryz.results94 (.tmp rfl .nil) .one ?_)
            refine al_p (q_not rfl) (al_p (q_pickT rfl rfl) (al_p (q_assign rfl) (al_end (aq_then ?_))))
            refine ac_ret (ret1 Tryz.results51 rfl (fun w9 hs => ?_))
            rw [hE, show decide (((k : Nat) : Int) ≥ 0) = true from decide_eq_true (by omega)]; exact ⟨rfl, hs.below⟩
          · have g14 := of_decide_eq_false hb4
            refine al_p (q_fieldAddr 1 rfl Tryz.runUnderlying52 rfl Tryz.sizeOf3 (by decide) rfl) (al_p (q_load (i := 0) rfl rfl rfl Tryz.isAgg3) (al_p (q_load (i := 1) rfl rfl rfl Tryz.isAgg3) (al_p (q_gtr rfl rfl) (al_p (q_pickF rfl rfl) ?_))))
            refine al_p (q_assign rfl) (al_end (aq_then ?_))
            refine aq_keepL [3] (.cons rfl .nil) ?_
            refine ac_ret (retI Tryz.results95 (.tmp rfl .nil) .one ?_)
            refine al_end (aq_then ?_)
            refine ac_cond rfl (fun h2 => ?_) (fun h2 => ?_)
            · have g2 := of_decide_eq_true h2
              have hbd : badX t (spA xs k) = true := by simp [badX]; omega
              have hE : boxB M t xs = false := boxB_no (j := k) (by omega) hbd
              refine ac_seq (ac_region ?_)
              refine al_p (q_move rfl) (al_p (q_assign rfl) (al_end (aq_then ?_)))
              refine ac_ret (aq_inR (aq_thenR (aq_thenR (aq_inR ?_))))
              refine aq_thenR (retI Tryz.results149 (.tmp rfl .nil) .one ?_)
              refine al_p (q_geq rfl rfl) (al_p (q_assign rfl) (al_end (aq_then ?_)))
              refine ac_ret (retI Tryz.results94 (.tmp rfl .nil) .one ?_)
              refine al_p (q_not rfl) (al_p (q_pickT rfl rfl) (al_p (q_assign rfl) (al_end (aq_then ?_))))
              refine ac_ret (ret1 Tryz.results51 rfl (fun w9 hs => ?_))
              rw [hE, show decide (((k : Nat) : Int) ≥ 0) = true from decide_eq_true (by omega)]; exact ⟨rfl, hs.below⟩
            · have g2 := of_decide_eq_false h2
              have hbad : badX t (spA xs k) = false := by simp [badX]; omega
              refine ac_skip (aq_inN (aq_then (ac_region ?_)))
              refine al_p (q_add rfl rfl (by omega)) (al_p (q_move rfl) (al_end (aq_then ?_)))
              skip
              refine aq_round (k + 1) (by omega) ⟨by omega, fun j h1 => (Nat.lt_or_ge j k).elim (fun g => hF1.2 j g) (fun g => by (have e : j = k := by omega); rw [e]; exact hbad)⟩ ⟨rfl, rfl, rfl, rfl, rfl, trivial⟩ (fun w9 hs => (hs.tail 1 rfl))
      · have hke : k = nx := by have := of_decide_eq_false h1; omega
        refine ac_exit (aq_thenE (aq_thenE (aq_hit (aq_then ?_))))
        refine ac_seq (ac_region ?_)
        refine al_p (q_assign rfl) (al_end (aq_then ?_))
        refine ac_ret (retI Tryz.results149 (.tmp rfl .nil) .one ?_)
        refine al_p (q_geq rfl rfl) (al_p (q_assign rfl) (al_end (aq_then ?_)))
        refine ac_ret (retI Tryz.results94 (.tmp rfl .nil) .one ?_)
        refine al_p (q_not rfl) (al_p (q_pickT rfl rfl) (al_p (q_assign rfl) (al_end (aq_then ?_))))
        refine ac_ret (ret1 Tryz.results51 rfl (fun w9 hs => ?_))
        have hE : boxB M t xs = true := boxB_yes hc (by omega) (fun j hj => hF1.2 j (by omega))
        rw [hE]; exact ⟨rfl, hs.below⟩
    · have hE : boxB M t xs = false := boxB_bad (Or.inr (fun e => by rw [hcs] at hb2; simp at hb2; omega))
      refine al_skip rfl rfl rfl (al_skip rfl rfl rfl (al_skip rfl rfl rfl (al_skip rfl rfl rfl (al_p (q_pickF rfl rfl) ?_))))
      refine al_p (q_assign rfl) (al_end (aq_then ?_))
      refine ac_ret (ret1 Tryz.results51 rfl (fun w9 hs => ?_))
      rw [hE]; exact ⟨rfl, hs.below⟩
  · have hE : boxB M t xs = false := boxB_bad (Or.inl (by simpa using hb1))
    refine al_skip rfl rfl rfl (al_skip rfl rfl rfl (al_skip rfl rfl rfl (al_skip rfl rfl rfl (al_skip rfl rfl rfl ?_))))
    refine al_p (q_pickF rfl rfl) (al_p (q_move rfl) (al_skip rfl rfl rfl (al_skip rfl rfl rfl (al_skip rfl rfl rfl ?_))))
    refine al_skip rfl rfl rfl (al_p (q_pickF rfl rfl) (al_p (q_assign rfl) (al_end (aq_then ?_))))
    refine ac_ret (ret1 Tryz.results51 rfl (fun w9 hs => ?_))
    rw [hE]; exact ⟨rfl, hs.below⟩
set_option maxRecDepth 100000 in
theorem checkBox_any (R : MachR) (M : MachD) (Q : CurR) (C : CurD) (w : World) (hM : IsM w R M) (hC : IsC w Q C) (X : Option Addr) (nx cx : Nat) (xs : List SpanD) (t : Int) (hS : IsT 2 SpanD.cells w X nx xs) : Calls Tryz.prog 59 #[(.agg (mCs R M).toArray), (.agg (cCs Q).toArray), (.int .i64 t), (.slice X nx cx)] w (Ret (.int .i64 (chkE (validC M C && boxB M t xs) (wthn t 1 1000000))) w) := by
  refine calls_ax (vs := [(.agg (mCs R M).toArray), (.agg (cCs Q).toArray), (.int .i64 t), (.slice X nx cx)]) Tryz.func59 rfl rfl ?_
  refine ac_seq (ac_region ?_)
  refine al_new (fun b => .pointer (some ⟨b, 0, none⟩)) (r_box rfl rfl) rfl rfl rfl ?_
  intro b1
  refine al_new (fun b => .pointer (some ⟨b, 0, none⟩)) (r_box rfl rfl) rfl rfl rfl ?_
  intro b2
  refine al_p (q_assign rfl) (al_end (aq_then ?_))
  refine ac_seq (ac_region ?_)
  refine al_p (q_loadAll (i := 1) rfl rfl Tryz.isAgg29 Tryz.sizeOf29 rfl) (al_p (q_loadAll (i := 0) rfl rfl Tryz.isAgg32 Tryz.sizeOf32 rfl) (al_call Tryz.call42 (.cons rfl (.cons rfl .nil)) rfl rfl (fun w1 hs1 => ?_)))
  refine (pvalid_any R M Q C _ (hM.below hs1.below) (hC.below hs1.below)).mono ?_
  rintro e u1 ⟨rfl, hb_1⟩
  refine ⟨_, rfl, hb_1, ?_⟩
  clear hs1
  refine al_p (q_move rfl) ?_
  refine aq_split 12 rfl (fun hb1 => ?_) (fun hb1 => ?_)
  · have hv : validC M C = true := hb1
    refine al_p (q_loadAll (i := 1) rfl rfl Tryz.isAgg29 Tryz.sizeOf29 rfl) (al_p (q_move rfl) (al_p (q_move rfl) (al_call Tryz.call51 (.cons rfl (.cons rfl (.cons rfl .nil))) rfl rfl (fun w2 hs2 => ?_))))
    refine (validBox_any R M X nx cx xs t _ (hM.below hs2.below) (hS.below hs2.below)).mono ?_
    rintro e u2 ⟨rfl, hb_2⟩
    refine ⟨_, rfl, hb_2, ?_⟩
    clear hs2
    refine al_p (q_pickT rfl rfl) (al_p (q_move rfl) (al_call Tryz.call47 (.cons rfl .nil) rfl rfl (fun w3 hs3 => ?_)))
    refine (total5_any t _).mono ?_
    rintro e u3 ⟨rfl, hb_3⟩
    refine ⟨_, rfl, hb_3, ?_⟩
    clear hs3
    refine al_call Tryz.call50 (.cons rfl (.cons rfl .nil)) rfl rfl (fun w4 hs4 => ?_)
    refine (chk5_any ((boxB M t xs)) (wthn t 1 1000000) _).mono ?_
    rintro e u4 ⟨rfl, hb_4⟩
    refine ⟨_, rfl, hb_4, ?_⟩
    clear hs4
    refine al_p (q_assign rfl) (al_end (aq_then ?_))
    refine ac_ret (ret1 Tryz.results59 rfl (fun w9 hs => ?_))
    rw [hv]; exact ⟨rfl, hs.below⟩
  · have hv : validC M C = false := hb1
    refine al_skip rfl rfl rfl (al_skip rfl rfl rfl (al_skip rfl rfl rfl (al_skip rfl rfl rfl (al_p (q_pickF rfl rfl) ?_))))
    refine al_p (q_move rfl) (al_call Tryz.call47 (.cons rfl .nil) rfl rfl (fun w5 hs5 => ?_))
    refine (total5_any t _).mono ?_
    rintro e u5 ⟨rfl, hb_5⟩
    refine ⟨_, rfl, hb_5, ?_⟩
    clear hs5
    refine al_call Tryz.call50 (.cons rfl (.cons rfl .nil)) rfl rfl (fun w6 hs6 => ?_)
    refine (chk5_any (false) (wthn t 1 1000000) _).mono ?_
    rintro e u6 ⟨rfl, hb_6⟩
    refine ⟨_, rfl, hb_6, ?_⟩
    clear hs6
    refine al_p (q_assign rfl) (al_end (aq_then ?_))
    refine ac_ret (ret1 Tryz.results59 rfl (fun w9 hs => ?_))
    rw [hv]; exact ⟨rfl, hs.below⟩
def ptX (j : List Int) (k : Nat) : SpanD := ⟨iA j k, iA j k⟩
def arX (j : List Int) (wd t : Int) (k : Nat) : SpanD := ⟨max 0 (iA j k - wd), min t (iA j k + wd)⟩
theorem eql_bl_apiSpan_0_1 (a0 a1 : Value) (ha0 : a0.oneCell' = true) (ha1 : a1.oneCell' = true) : ∀ w, (Instr.build 52 #[(0, a0), (1, a1)]).run Tryz.prog w = .ok (.agg #[a0, a1]) w := by
  have ea0 : a0.cells = #[a0] := cells_one ha0
  have ea1 : a1.cells = #[a1] := cells_one ha1
  intro w; simp [Instr.build, Instr.fill, cells_agg, Tryz.runUnderlying52, Tryz.zeroValue52, Tryz.sizeOf3, ea0, ea1]
set_option maxRecDepth 100000 in
theorem points_any (J : Option Addr) (nj cj : Nat) (js : List Int) (w : World) (hJ : IsT 1 intCells w J nj js) (hj : nj ≤ 1000) : Calls Tryz.prog 84 #[(.slice J nj cj)] w (fun e w' => ∃ A c, e = .returned (.slice A nj c) ∧ NewT 2 SpanD.cells w.heap.size w' A nj c (lst nj (ptX js)) ∧ Below w.heap.size w w') := by
  have n1 := hJ.1
  refine calls_ax (vs := [(.slice J nj cj)]) Tryz.func84 rfl rfl ?_
  refine ac_seq (ac_region ?_)
  refine al_p (q_assign rfl) (al_end (aq_then ?_))
  refine ac_seq (ac_region ?_)
  refine al_p (q_move rfl) (al_p (q_lenS rfl Tryz.runUnderlying30) ?_)
  refine al_makeAgg (n := nj) (bytes := 16) (zv := (.agg #[.int .i64 0, .int .i64 0])) [(.int .i64 0), (.int .i64 0)] rfl rfl rfl Tryz.underlying45 (by kernel_rfl) rfl rfl rfl (by omega) (by decide) rfl rfl ?_
  intro b1
  refine al_p (q_assign rfl) (al_end (aq_then ?_))
  refine ac_seq (ac_seq (ac_region ?_))
  refine al_p (q_move rfl) (al_p (q_lenS rfl Tryz.runUnderlying30) (al_p (q_move rfl) (al_end (aq_then ?_))))
  refine ac_block ?_
  refine ac_loop (β := Nat) (fun k => k ≤ nj) (fun k => [(2, (.slice none 0 0)), (3, (.slice (some ⟨b1, 0, none⟩) (nj) (nj))), (9, (.slice J nj cj)), (10, (.int .i64 (nj : Int))), (11, (.int .i64 (k : Int)))]) (fun _ => _) (fun k => [(b1, .cells (spmix nj k (ptX js)))]) (fun k => nj - k) 0 (by omega) ⟨rfl, rfl, rfl, rfl, rfl, trivial⟩ (fun w9 hs => (by rw [show spmix nj 0 (ptX js) = (List.range nj).flatMap (fun _ => [.int .i64 0, .int .i64 0]) from mixF_zero _ _ _]; exact hs)) (fun k hF1 => ?_)
  refine ac_seq (ac_region ?_)
  refine al_p (q_lss rfl rfl) (al_end (aq_then ?_))
  refine ac_seq ?_
  refine ac_cond rfl (fun h1 => ?_) (fun h1 => ?_)
  · have hkn : k < nj := by have := of_decide_eq_true h1; omega
    obtain ⟨b11, o11, hA1, hlt1, hget1⟩ := hJ.2 (by omega)
    have hx1 := iA_get (l := js) (k := k) (by omega)
    refine ac_skip (aq_then (ac_seq (ac_block (ac_seq (ac_region ?_)))))
    refine al_p (q_move rfl) ?_
    refine al_p (q_indexAddrA (i := k) (o11 + k * 1 + 0) hA1 rfl rfl rfl (by omega) Tryz.runUnderlying30 Tryz.sizeOf3 rfl) (al_p (q_loadX rfl Tryz.isAgg3 (fun w9 hs => (hs.below.cell (p := ⟨_, _, none⟩) hlt1).trans ((hget1 k _ hx1) 0 _ rfl))) (al_p (q_assign rfl) (al_p (q_assign rfl) (al_end (aq_then ?_)))))
    refine ac_region (al_p (q_move rfl) (al_p (q_move rfl) (al_p (q_move rfl) (al_p (q_move rfl) ?_))))
    refine al_p (q_build (.cons rfl (.cons rfl .nil)) (eql_bl_apiSpan_0_1 _ _ rfl rfl)) ?_
    refine al_p (q_indexAddr (i := k) (0 + k * 2) rfl rfl rfl (by omega) Tryz.runUnderlying45 Tryz.sizeOf52 rfl) ?_
    refine al_storeV (i := 0) (cs' := (spmix nj (k + 1) (ptX js))) (vs := [.int .i64 (iA js k), .int .i64 (iA js k)]) rfl rfl rfl Tryz.sizeOf52 rfl (by rw [mixF_len (z := 2) (fun _ => rfl) (fun _ => rfl)]; omega) rfl (by have h := mixF_store (n := nj) (k := k) (z := 2) (F := fun j => SpanD.cells ((ptX js) j)) (G := fun _ => [.int .i64 0, .int .i64 0]) (fun _ => rfl) (fun _ => rfl) hkn; rw [Nat.zero_add]; exact h) .k0 rfl ?_
    refine al_end (aq_inN (aq_then (ac_region ?_)))
    refine al_p (q_add rfl rfl (by omega)) (al_p (q_move rfl) (al_end (aq_then ?_)))
    skip
    refine aq_round (k + 1) (by omega) (by omega) ⟨rfl, rfl, rfl, rfl, rfl, trivial⟩ (fun w9 hs => hs)
  · have hke : k = nj := by have := of_decide_eq_false h1; omega
    refine ac_exit (aq_thenE (aq_thenE (aq_hit (aq_then ?_))))
    refine ac_seq (ac_region ?_)
    refine al_p (q_move rfl) (al_p (q_assign rfl) (al_end (aq_then ?_)))
    refine ac_ret (ret1 Tryz.results84 rfl (fun w9 hs => ?_))
    rw [hke] at hs; exact ⟨_, _, rfl, ⟨isT_box0 (n := 2) (enc := SpanD.cells) (zs := lst nj (ptX js)) (fun _ => rfl) (hs.at 0 rfl) (flat_spx _ _) (lst_length _ _), hs.new 0 rfl, by omega, by omega⟩, hs.below⟩
set_option maxRecDepth 100000 in
theorem around_any (J : Option Addr) (nj cj : Nat) (js : List Int) (wd t : Int) (w : World) (hJ : IsT 1 intCells w J nj js) (hj : nj ≤ 1000) (w0 : 0 ≤ wd) (w1 : wd ≤ 1000000) (hb : ∀ x ∈ js, 0 ≤ x ∧ x ≤ 1000000) : Calls Tryz.prog 131 #[(.slice J nj cj), (.int .i64 wd), (.int .i64 t)] w (fun e w' => ∃ A c, e = .returned (.slice A nj c) ∧ NewT 2 SpanD.cells w.heap.size w' A nj c (lst nj (arX js wd t)) ∧ Below w.heap.size w w') := by
  have n1 := hJ.1
  refine calls_ax (vs := [(.slice J nj cj), (.int .i64 wd), (.int .i64 t)]) Tryz.func131 rfl rfl ?_
  refine ac_seq (ac_region ?_)
  refine al_p (q_assign rfl) (al_end (aq_then ?_))
  refine ac_seq (ac_region ?_)
  refine al_p (q_move rfl) (al_p (q_lenS rfl Tryz.runUnderlying30) ?_)
  refine al_makeAgg (n := nj) (bytes := 16) (zv := (.agg #[.int .i64 0, .int .i64 0])) [(.int .i64 0), (.int .i64 0)] rfl rfl rfl Tryz.underlying45 (by kernel_rfl) rfl rfl rfl (by omega) (by decide) rfl rfl ?_
  intro b1
  refine al_p (q_assign rfl) (al_end (aq_then ?_))
  refine ac_seq (ac_seq (ac_region ?_))
  refine al_p (q_move rfl) (al_p (q_lenS rfl Tryz.runUnderlying30) (al_p (q_move rfl) (al_end (aq_then ?_))))
  refine ac_block ?_
  refine ac_loop (β := Nat) (fun k => k ≤ nj) (fun k => [(1, (.int .i64 wd)), (2, (.int .i64 t)), (6, (.slice none 0 0)), (7, (.slice (some ⟨b1, 0, none⟩) (nj) (nj))), (13, (.slice J nj cj)), (14, (.int .i64 (nj : Int))), (15, (.int .i64 (k : Int)))]) (fun _ => _) (fun k => [(b1, .cells (spmix nj k (arX js wd t)))]) (fun k => nj - k) 0 (by omega) ⟨rfl, rfl, rfl, rfl, rfl, rfl, rfl, trivial⟩ (fun w9 hs => (by rw [show spmix nj 0 (arX js wd t) = (List.range nj).flatMap (fun _ => [.int .i64 0, .int .i64 0]) from mixF_zero _ _ _]; exact hs)) (fun k hF1 => ?_)
  refine ac_seq (ac_region ?_)
  refine al_p (q_lss rfl rfl) (al_end (aq_then ?_))
  refine ac_seq ?_
  refine ac_cond rfl (fun h1 => ?_) (fun h1 => ?_)
  · have hkn : k < nj := by have := of_decide_eq_true h1; omega
    obtain ⟨b11, o11, hA1, hlt1, hget1⟩ := hJ.2 (by omega)
    have hx1 := iA_get (l := js) (k := k) (by omega)
    have hbk := hb _ (iA_mem (l := js) (k := k) (by omega))
    refine ac_skip (aq_then (ac_seq (ac_block (ac_seq (ac_region ?_)))))
    refine al_p (q_move rfl) ?_
    refine al_p (q_indexAddrA (i := k) (o11 + k * 1 + 0) hA1 rfl rfl rfl (by omega) Tryz.runUnderlying30 Tryz.sizeOf3 rfl) (al_p (q_loadX rfl Tryz.isAgg3 (fun w9 hs => (hs.below.cell (p := ⟨_, _, none⟩) hlt1).trans ((hget1 k _ hx1) 0 _ rfl))) (al_p (q_assign rfl) (al_p (q_assign rfl) (al_end (aq_then ?_)))))
    refine ac_region (al_p (q_move rfl) (al_p (q_move rfl) (al_p (q_move rfl) (al_p (q_move rfl) ?_))))
    refine al_p (q_sub rfl rfl (by omega)) (al_p (q_max rfl rfl) (al_p (q_move rfl) (al_p (q_move rfl) (al_p (q_move rfl) ?_))))
    refine al_p (q_add rfl rfl (by omega)) (al_p (q_min rfl rfl) (al_p (q_build (.cons rfl (.cons rfl .nil)) (eql_bl_apiSpan_0_1 _ _ rfl rfl)) ?_))
    refine al_p (q_indexAddr (i := k) (0 + k * 2) rfl rfl rfl (by omega) Tryz.runUnderlying45 Tryz.sizeOf52 rfl) ?_
    refine al_storeV (i := 0) (cs' := (spmix nj (k + 1) (arX js wd t))) (vs := [.int .i64 (max 0 (iA js k - wd)), .int .i64 (min t (iA js k + wd))]) rfl rfl rfl Tryz.sizeOf52 rfl (by rw [mixF_len (z := 2) (fun _ => rfl) (fun _ => rfl)]; omega) rfl (by have h := mixF_store (n := nj) (k := k) (z := 2) (F := fun j => SpanD.cells ((arX js wd t) j)) (G := fun _ => [.int .i64 0, .int .i64 0]) (fun _ => rfl) (fun _ => rfl) hkn; rw [Nat.zero_add]; exact h) .k0 rfl ?_
    refine al_end (aq_inN (aq_then (ac_region ?_)))
    refine al_p (q_add rfl rfl (by omega)) (al_p (q_move rfl) (al_end (aq_then ?_)))
    skip
    refine aq_round (k + 1) (by omega) (by omega) ⟨rfl, rfl, rfl, rfl, rfl, rfl, rfl, trivial⟩ (fun w9 hs => hs)
  · have hke : k = nj := by have := of_decide_eq_false h1; omega
    refine ac_exit (aq_thenE (aq_thenE (aq_hit (aq_then ?_))))
    refine ac_seq (ac_region ?_)
    refine al_p (q_move rfl) (al_p (q_assign rfl) (al_end (aq_then ?_)))
    refine ac_ret (ret1 Tryz.results131 rfl (fun w9 hs => ?_))
    rw [hke] at hs; exact ⟨_, _, rfl, ⟨isT_box0 (n := 2) (enc := SpanD.cells) (zs := lst nj (arX js wd t)) (fun _ => rfl) (hs.at 0 rfl) (flat_spx _ _) (lst_length _ _), hs.new 0 rfl, by omega, by omega⟩, hs.below⟩
def lieP (xs ys : List SpanD) (n : Nat) : Prop := ∀ k, k < n → insd (spA xs k).lo (spA xs k).hi (spA ys k).lo (spA ys k).hi = true
instance (xs ys : List SpanD) (n : Nat) : Decidable (lieP xs ys n) := Nat.decidableBallLT n (fun k _ => insd (spA xs k).lo (spA xs k).hi (spA ys k).lo (spA ys k).hi = true)
set_option maxRecDepth 100000 in
theorem lies5_any (X Y : Option Addr) (nx cx ny cy : Nat) (xs ys : List SpanD) (w : World) (hS : IsT 2 SpanD.cells w X nx xs) (hT : IsT 2 SpanD.cells w Y ny ys) (hn : nx ≤ ny) (hl : nx ≤ 1000000) : Calls Tryz.prog 164 #[(.slice X nx cx), (.slice Y ny cy)] w (Ret (.bool (decide (lieP xs ys nx))) w) := by
  have n1 := hS.1
  have n2 := hT.1
  refine calls_ax (vs := [(.slice X nx cx), (.slice Y ny cy)]) Tryz.func164 rfl rfl ?_
  refine ac_seq (ac_region ?_)
  refine al_p (q_assign rfl) (al_end (aq_then ?_))
  refine ac_seq (ac_seq (ac_region ?_))
  refine al_p (q_move rfl) (al_p (q_lenS rfl Tryz.runUnderlying45) (al_p (q_move rfl) (al_end (aq_then ?_))))
  refine ac_block (ac_loop (β := Nat) (fun k => k ≤ nx ∧ lieP xs ys k) (fun k => [(1, (.slice Y ny cy)), (4, (.bool false)), (7, (.slice X nx cx)), (8, (.int .i64 (nx : Int))), (9, (.int .i64 (k : Int)))]) (fun _ => _) (fun k => []) (fun k => nx - k) 0 ⟨by omega, fun j h => by omega⟩ ⟨rfl, rfl, rfl, rfl, rfl, trivial⟩ (fun w9 hs => hs) (fun k hF1 => ?_))
  refine ac_seq (ac_region ?_)
  refine al_p (q_lss rfl rfl) (al_end (aq_then ?_))
  refine ac_seq ?_
  refine ac_cond rfl (fun h1 => ?_) (fun h1 => ?_)
  · have hkn : k < nx := by have := of_decide_eq_true h1; omega
    obtain ⟨b11, o11, hA1, hlt1, hget1⟩ := hS.2 (by omega)
    have hx1 := spA_get (x := xs) (k := k) (by omega)
    obtain ⟨b21, o21, hA2, hlt2, hget2⟩ := hT.2 (by omega)
    have hx2 := spA_get (x := ys) (k := k) (by omega)
    refine ac_skip (aq_then (ac_seq (ac_block (ac_seq (ac_region ?_)))))
    refine al_p (q_move rfl) ?_
    refine al_p (q_indexAddrA (i := k) (o11 + k * 2 + 0) hA1 rfl rfl rfl (by omega) Tryz.runUnderlying45 Tryz.sizeOf52 rfl) (al_p (q_loadXs (SpanD.cells (spA xs k)) rfl Tryz.isAgg52 Tryz.sizeOf52 (fun w9 hs j9 v9 h9 => by rw [addr_add]; exact (hs.below.cell (p := ⟨_, _, none⟩) hlt1).trans ((hget1 k _ hx1) j9 v9 h9)) rfl) (al_new (fun b => .pointer (some ⟨b, 0, none⟩)) (r_alloc Tryz.zeroValue52 rfl) rfl rfl rfl ?_))
    intro b1
    refine al_p (q_assign rfl) (al_storeAll (i := 0) rfl rfl rfl rfl Tryz.sizeOf52 rfl rfl .k0 rfl (al_end (aq_then ?_)))
    refine ac_seq (ac_draw 6 (by kernel_rfl) (by kernel_rfl) ?_)
    refine ah_t 0 (fun w9 hs => hs) rfl rfl (by kernel_rfl) (q_loadAll (i := 0) rfl rfl Tryz.isAgg52 Tryz.sizeOf52 rfl) (ah_t 1 (fun w9 hs => hs) rfl rfl (by kernel_rfl) (q_move rfl) (ah_t 2 (fun w9 hs => hs) rfl rfl (by kernel_rfl) (q_move rfl) ?_))
    refine ah_t 3 (fun w9 hs => hs) rfl rfl (by kernel_rfl) (q_indexAddrA (i := k) (o21 + k * 2 + 0) hA2 rfl rfl rfl (by omega) Tryz.runUnderlying45 Tryz.sizeOf52 rfl) (ah_t 4 (fun w9 hs => hs) rfl rfl (by kernel_rfl) (q_loadXs (SpanD.cells (spA ys k)) rfl Tryz.isAgg52 Tryz.sizeOf52 (fun w9 hs j9 v9 h9 => by rw [addr_add]; exact (hs.below.cell (p := ⟨_, _, none⟩) hlt2).trans ((hget2 k _ hx2) j9 v9 h9)) rfl) (ah_one 5 rfl (by kernel_rfl) (fun hok1 hcl1 => ?_)))
    refine al_call Tryz.call118 (.cons rfl (.cons rfl .nil)) rfl rfl (fun w1 hs1 => ?_)
    refine (inside_any (spA xs k).lo (spA xs k).hi (spA ys k).lo (spA ys k).hi _).mono ?_
    rintro e u1 ⟨rfl, hb_1⟩
    refine ⟨_, rfl, hb_1, ?_⟩
    clear hs1
    refine al_end (ah_back hok1 hcl1 (fun w9 hs => (hs.fewer 1 rfl)) ?_)
    refine ah_t 6 (fun w9 hs => (hs.fewer 1 rfl)) rfl rfl (by kernel_rfl) (q_not rfl) (ah_done (by kernel_rfl) ?_)
    refine aq_then ?_
    refine ac_cond rfl (fun h2 => ?_) (fun h2 => ?_)
    · have hbd : insd (spA xs k).lo (spA xs k).hi (spA ys k).lo (spA ys k).hi = false := by simpa using h2
      have hE : ¬ lieP xs ys nx := fun h => by have := h k (by omega); rw [hbd] at this; cases this
      refine ac_seq (ac_region ?_)
      refine al_p (q_assign rfl) (al_end (aq_then ?_))
      refine ac_ret (aq_inR (aq_thenR (aq_thenR (aq_inR ?_))))
      refine aq_thenR (ret1 Tryz.results164 rfl (fun w9 hs => ?_))
      rw [decide_eq_false hE]; exact ⟨rfl, hs.below⟩
    · have hok : insd (spA xs k).lo (spA xs k).hi (spA ys k).lo (spA ys k).hi = true := by simpa using h2
      refine ac_skip (aq_inN (aq_then (ac_region ?_)))
      refine al_p (q_add rfl rfl (by omega)) (al_p (q_move rfl) (al_end (aq_then ?_)))
      skip
      refine aq_round (k + 1) (by omega) ⟨by omega, fun j h1 => (Nat.lt_or_ge j k).elim (fun g => hF1.2 j g) (fun g => by (have e : j = k := by omega); rw [e]; exact hok)⟩ ⟨rfl, rfl, rfl, rfl, rfl, trivial⟩ (fun w9 hs => ((hs.fewer 1 rfl).tail 1 rfl))
  · have hke : k = nx := by have := of_decide_eq_false h1; omega
    refine ac_exit (aq_thenE (aq_thenE (aq_hit (aq_then ?_))))
    refine ac_seq (ac_region ?_)
    refine al_p (q_assign rfl) (al_end (aq_then ?_))
    refine ac_ret (ret1 Tryz.results164 rfl (fun w9 hs => ?_))
    rw [decide_eq_true (show lieP xs ys nx by rw [← hke]; exact hF1.2)]; exact ⟨rfl, hs.below⟩
def eqPS (xs ys : List SpanD) (n : Nat) : Prop := ∀ k, k < n → (spA xs k).lo = (spA ys k).lo ∧ (spA xs k).hi = (spA ys k).hi
instance (xs ys : List SpanD) (n : Nat) : Decidable (eqPS xs ys n) := Nat.decidableBallLT n (fun k _ => (spA xs k).lo = (spA ys k).lo ∧ (spA xs k).hi = (spA ys k).hi)
def eqPI (xs ys : List Int) (n : Nat) : Prop := ∀ k, k < n → iA xs k = iA ys k
instance (xs ys : List Int) (n : Nat) : Decidable (eqPI xs ys n) := Nat.decidableBallLT n (fun k _ => iA xs k = iA ys k)
set_option maxRecDepth 100000 in
theorem eql_eq_neq_apiSpan (a0 b0 : Int) (a1 b1 : Int) : ∀ w, (binOp .neq 52 (.agg #[.int .i64 a0, .int .i64 a1]) (.agg #[.int .i64 b0, .int .i64 b1])).run Tryz.prog w = .ok (.bool (!decide (a0 = b0 ∧ a1 = b1))) w := by
  intro w
  have e : binOp .neq 52 (.agg #[.int .i64 a0, .int .i64 a1]) (.agg #[.int .i64 b0, .int .i64 b1]) = (do pure (.bool (!(← Op.equal 52 (.agg #[.int .i64 a0, .int .i64 a1]) (.agg #[.int .i64 b0, .int .i64 b1])))) : Sem Value) := rfl
  have h : ∀ w, (Op.equal 52 (.agg #[.int .i64 a0, .int .i64 a1]) (.agg #[.int .i64 b0, .int .i64 b1])).run Tryz.prog w = .ok (decide (a0 = b0 ∧ a1 = b1)) w := by
    intro w
    show (Op.equalIn 10000 52 _ _).run _ w = _
    rw [run_equalIn_struct w 9999 52 _ _ (by kernel_rfl) (by kernel_rfl)]
    simp [Program.fieldsOf, Tryz.underlying52, Op.eqFields, go_sem, Tryz.underlying3, Tryz.isAgg3, Tryz.sizeOf3, str_eq]
    by_cases h0 : a0 = b0 <;> by_cases h1 : a1 = b1 <;> simp [h0, h1]
  rw [e]; simp [h]
set_option maxRecDepth 100000 in
theorem equalS_any (X Y : Option Addr) (nx cx ny cy : Nat) (xs ys : List SpanD) (w : World) (hS : IsT 2 SpanD.cells w X nx xs) (hT : IsT 2 SpanD.cells w Y ny ys) (hl : nx ≤ 1000000) : Calls Tryz.prog 133 #[(.slice X nx cx), (.slice Y ny cy)] w (Ret (.bool (decide (nx = ny ∧ eqPS xs ys nx))) w) := by
  have n1 := hS.1
  have n2 := hT.1
  refine calls_ax (vs := [(.slice X nx cx), (.slice Y ny cy)]) Tryz.func133 rfl rfl ?_
  refine ac_seq (ac_region ?_)
  refine al_p (q_assign rfl) (al_end (aq_then ?_))
  refine ac_seq (ac_seq (ac_region ?_))
  refine al_p (q_move rfl) (al_p (q_lenS rfl Tryz.runUnderlying45) (al_p (q_move rfl) (al_p (q_lenS rfl Tryz.runUnderlying45) (al_p (q_neq rfl rfl) ?_))))
  refine al_end (aq_then ?_)
  refine ac_cond rfl (fun h1 => ?_) (fun h1 => ?_)
  · have hE : ¬ (nx = ny ∧ eqPS xs ys nx) := fun h => by have := h.1; simp at h1; omega
    refine ac_seq (ac_region ?_)
    refine al_p (q_assign rfl) (al_end (aq_then ?_))
    refine ac_ret (aq_thenR (ret1 Tryz.results133 rfl (fun w9 hs => ?_)))
    rw [decide_eq_false hE]; exact ⟨rfl, hs.below⟩
  · have hxy : nx = ny := by simp at h1; omega
    refine ac_skip (aq_then (ac_seq (ac_seq (ac_region ?_))))
    refine al_p (q_move rfl) (al_p (q_lenS rfl Tryz.runUnderlying45) (al_p (q_move rfl) (al_end (aq_then ?_))))
    refine ac_block (ac_loop (β := Nat) (fun k => k ≤ nx ∧ eqPS xs ys k) (fun k => [(0, (.slice X nx cx)), (1, (.slice Y ny cy)), (4, (.bool false)), (12, (.int .i64 (nx : Int))), (13, (.int .i64 (k : Int)))]) (fun _ => _) (fun k => []) (fun k => nx - k) 0 ⟨by omega, fun j h => by omega⟩ ⟨rfl, rfl, rfl, rfl, rfl, trivial⟩ (fun w9 hs => hs) (fun k hF1 => ?_))
    refine ac_seq (ac_region ?_)
    refine al_p (q_lss rfl rfl) (al_end (aq_then ?_))
    refine ac_seq ?_
    refine ac_cond rfl (fun h2 => ?_) (fun h2 => ?_)
    · have hkn : k < nx := by have := of_decide_eq_true h2; omega
      obtain ⟨b11, o11, hA1, hlt1, hget1⟩ := hS.2 (by omega)
      have hx1 := spA_get (x := xs) (k := k) (by omega)
      obtain ⟨b21, o21, hA2, hlt2, hget2⟩ := hT.2 (by omega)
      have hx2 := spA_get (x := ys) (k := k) (by omega)
      refine ac_skip (aq_then (ac_seq (ac_block (ac_seq (ac_region ?_)))))
      refine al_p (q_move rfl) (al_p (q_assign rfl) (al_end (aq_then ?_)))
      refine ac_seq (ac_draw 8 (by kernel_rfl) (by kernel_rfl) ?_)
      refine ah_t 0 (fun w9 hs => hs) rfl rfl (by kernel_rfl) (q_move rfl) (ah_t 1 (fun w9 hs => hs) rfl rfl (by kernel_rfl) (q_move rfl) ?_)
      refine ah_t 2 (fun w9 hs => hs) rfl rfl (by kernel_rfl) (q_indexAddrA (i := k) (o11 + k * 2 + 0) hA1 rfl rfl rfl (by omega) Tryz.runUnderlying45 Tryz.sizeOf52 rfl) (ah_t 3 (fun w9 hs => hs) rfl rfl (by kernel_rfl) (q_loadXs (SpanD.cells (spA xs k)) rfl Tryz.isAgg52 Tryz.sizeOf52 (fun w9 hs j9 v9 h9 => by rw [addr_add]; exact (hs.below.cell (p := ⟨_, _, none⟩) hlt1).trans ((hget1 k _ hx1) j9 v9 h9)) rfl) (ah_t 4 (fun w9 hs => hs) rfl rfl (by kernel_rfl) (q_move rfl) (ah_t 5 (fun w9 hs => hs) rfl rfl (by kernel_rfl) (q_move rfl) ?_)))
      refine ah_t 6 (fun w9 hs => hs) rfl rfl (by kernel_rfl) (q_indexAddrA (i := k) (o21 + k * 2 + 0) hA2 rfl rfl rfl (by omega) Tryz.runUnderlying45 Tryz.sizeOf52 rfl) (ah_t 7 (fun w9 hs => hs) rfl rfl (by kernel_rfl) (q_loadXs (SpanD.cells (spA ys k)) rfl Tryz.isAgg52 Tryz.sizeOf52 (fun w9 hs j9 v9 h9 => by rw [addr_add]; exact (hs.below.cell (p := ⟨_, _, none⟩) hlt2).trans ((hget2 k _ hx2) j9 v9 h9)) rfl) (ah_t 8 (fun w9 hs => hs) rfl rfl (by kernel_rfl) (q_cmpS rfl rfl (by kernel_rfl) (eql_eq_neq_apiSpan _ _ _ _)) (ah_done (by kernel_rfl) ?_)))
      refine aq_then ?_
      refine ac_cond rfl (fun h3 => ?_) (fun h3 => ?_)
      · have hE : ¬ (nx = ny ∧ eqPS xs ys nx) := fun h => by have := h.2 k (by omega); simp [this] at h3
        refine ac_seq (ac_region ?_)
        refine al_p (q_assign rfl) (al_end (aq_then ?_))
        refine ac_ret (aq_inR (aq_thenR (aq_thenR (aq_inR ?_))))
        refine aq_thenR (ret1 Tryz.results133 rfl (fun w9 hs => ?_))
        rw [decide_eq_false hE]; exact ⟨rfl, hs.below⟩
      · have hok : (spA xs k).lo = (spA ys k).lo ∧ (spA xs k).hi = (spA ys k).hi := by simpa using h3
        refine ac_skip (aq_inN (aq_then (ac_region ?_)))
        refine al_p (q_add rfl rfl (by omega)) (al_p (q_move rfl) (al_end (aq_then ?_)))
        skip
        refine aq_round (k + 1) (by omega) ⟨by omega, fun j h1 => (Nat.lt_or_ge j k).elim (fun g => hF1.2 j g) (fun g => by (have e : j = k := by omega); rw [e]; exact hok)⟩ ⟨rfl, rfl, rfl, rfl, rfl, trivial⟩ (fun w9 hs => hs)
    · have hke : k = nx := by have := of_decide_eq_false h2; omega
      refine ac_exit (aq_thenE (aq_thenE (aq_hit (aq_then ?_))))
      refine ac_seq (ac_region ?_)
      refine al_p (q_assign rfl) (al_end (aq_then ?_))
      refine ac_ret (ret1 Tryz.results133 rfl (fun w9 hs => ?_))
      rw [decide_eq_true (show nx = ny ∧ eqPS xs ys nx from ⟨hxy, by rw [← hke]; exact hF1.2⟩)]; exact ⟨rfl, hs.below⟩
set_option maxRecDepth 100000 in
theorem equalI_any (X Y : Option Addr) (nx cx ny cy : Nat) (xs ys : List Int) (w : World) (hS : IsT 1 intCells w X nx xs) (hT : IsT 1 intCells w Y ny ys) (hl : nx ≤ 1000000) : Calls Tryz.prog 129 #[(.slice X nx cx), (.slice Y ny cy)] w (Ret (.bool (decide (nx = ny ∧ eqPI xs ys nx))) w) := by
  have n1 := hS.1
  have n2 := hT.1
  refine calls_ax (vs := [(.slice X nx cx), (.slice Y ny cy)]) Tryz.func129 rfl rfl ?_
  refine ac_seq (ac_region ?_)
  refine al_p (q_assign rfl) (al_end (aq_then ?_))
  refine ac_seq (ac_seq (ac_region ?_))
  refine al_p (q_move rfl) (al_p (q_lenS rfl Tryz.runUnderlying30) (al_p (q_move rfl) (al_p (q_lenS rfl Tryz.runUnderlying30) (al_p (q_neq rfl rfl) ?_))))
  refine al_end (aq_then ?_)
  refine ac_cond rfl (fun h1 => ?_) (fun h1 => ?_)
  · have hE : ¬ (nx = ny ∧ eqPI xs ys nx) := fun h => by have := h.1; simp at h1; omega
    refine ac_seq (ac_region ?_)
    refine al_p (q_assign rfl) (al_end (aq_then ?_))
    refine ac_ret (aq_thenR (ret1 Tryz.results129 rfl (fun w9 hs => ?_)))
    rw [decide_eq_false hE]; exact ⟨rfl, hs.below⟩
  · have hxy : nx = ny := by simp at h1; omega
    refine ac_skip (aq_then (ac_seq (ac_seq (ac_region ?_))))
    refine al_p (q_move rfl) (al_p (q_lenS rfl Tryz.runUnderlying30) (al_p (q_move rfl) (al_end (aq_then ?_))))
    refine ac_block (ac_loop (β := Nat) (fun k => k ≤ nx ∧ eqPI xs ys k) (fun k => [(0, (.slice X nx cx)), (1, (.slice Y ny cy)), (4, (.bool false)), (12, (.int .i64 (nx : Int))), (13, (.int .i64 (k : Int)))]) (fun _ => _) (fun k => []) (fun k => nx - k) 0 ⟨by omega, fun j h => by omega⟩ ⟨rfl, rfl, rfl, rfl, rfl, trivial⟩ (fun w9 hs => hs) (fun k hF1 => ?_))
    refine ac_seq (ac_region ?_)
    refine al_p (q_lss rfl rfl) (al_end (aq_then ?_))
    refine ac_seq ?_
    refine ac_cond rfl (fun h2 => ?_) (fun h2 => ?_)
    · have hkn : k < nx := by have := of_decide_eq_true h2; omega
      obtain ⟨b11, o11, hA1, hlt1, hget1⟩ := hS.2 (by omega)
      have hx1 := iA_get (l := xs) (k := k) (by omega)
      obtain ⟨b21, o21, hA2, hlt2, hget2⟩ := hT.2 (by omega)
      have hx2 := iA_get (l := ys) (k := k) (by omega)
      refine ac_skip (aq_then (ac_seq (ac_block (ac_seq (ac_region ?_)))))
      refine al_p (q_move rfl) (al_p (q_assign rfl) (al_end (aq_then ?_)))
      refine ac_seq (ac_draw 8 (by kernel_rfl) (by kernel_rfl) ?_)
      refine ah_t 0 (fun w9 hs => hs) rfl rfl (by kernel_rfl) (q_move rfl) (ah_t 1 (fun w9 hs => hs) rfl rfl (by kernel_rfl) (q_move rfl) ?_)
      refine ah_t 2 (fun w9 hs => hs) rfl rfl (by kernel_rfl) (q_indexAddrA (i := k) (o11 + k * 1 + 0) hA1 rfl rfl rfl (by omega) Tryz.runUnderlying30 Tryz.sizeOf3 rfl) (ah_t 3 (fun w9 hs => hs) rfl rfl (by kernel_rfl) (q_loadX rfl Tryz.isAgg3 (fun w9 hs => (hs.below.cell (p := ⟨_, _, none⟩) hlt1).trans ((hget1 k _ hx1) 0 _ rfl))) (ah_t 4 (fun w9 hs => hs) rfl rfl (by kernel_rfl) (q_move rfl) (ah_t 5 (fun w9 hs => hs) rfl rfl (by kernel_rfl) (q_move rfl) ?_)))
      refine ah_t 6 (fun w9 hs => hs) rfl rfl (by kernel_rfl) (q_indexAddrA (i := k) (o21 + k * 1 + 0) hA2 rfl rfl rfl (by omega) Tryz.runUnderlying30 Tryz.sizeOf3 rfl) (ah_t 7 (fun w9 hs => hs) rfl rfl (by kernel_rfl) (q_loadX rfl Tryz.isAgg3 (fun w9 hs => (hs.below.cell (p := ⟨_, _, none⟩) hlt2).trans ((hget2 k _ hx2) 0 _ rfl))) (ah_t 8 (fun w9 hs => hs) rfl rfl (by kernel_rfl) (q_neq rfl rfl) (ah_done (by kernel_rfl) ?_)))
      refine aq_then ?_
      refine ac_cond rfl (fun h3 => ?_) (fun h3 => ?_)
      · have hE : ¬ (nx = ny ∧ eqPI xs ys nx) := fun h => by have := h.2 k (by omega); simp [this] at h3
        refine ac_seq (ac_region ?_)
        refine al_p (q_assign rfl) (al_end (aq_then ?_))
        refine ac_ret (aq_inR (aq_thenR (aq_thenR (aq_inR ?_))))
        refine aq_thenR (ret1 Tryz.results129 rfl (fun w9 hs => ?_))
        rw [decide_eq_false hE]; exact ⟨rfl, hs.below⟩
      · have hok : iA xs k = iA ys k := by simpa using h3
        refine ac_skip (aq_inN (aq_then (ac_region ?_)))
        refine al_p (q_add rfl rfl (by omega)) (al_p (q_move rfl) (al_end (aq_then ?_)))
        skip
        refine aq_round (k + 1) (by omega) ⟨by omega, fun j h1 => (Nat.lt_or_ge j k).elim (fun g => hF1.2 j g) (fun g => by (have e : j = k := by omega); rw [e]; exact hok)⟩ ⟨rfl, rfl, rfl, rfl, rfl, trivial⟩ (fun w9 hs => hs)
    · have hke : k = nx := by have := of_decide_eq_false h2; omega
      refine ac_exit (aq_thenE (aq_thenE (aq_hit (aq_then ?_))))
      refine ac_seq (ac_region ?_)
      refine al_p (q_assign rfl) (al_end (aq_then ?_))
      refine ac_ret (ret1 Tryz.results129 rfl (fun w9 hs => ?_))
      rw [decide_eq_true (show nx = ny ∧ eqPI xs ys nx from ⟨hxy, by rw [← hke]; exact hF1.2⟩)]; exact ⟨rfl, hs.below⟩
set_option maxRecDepth 100000 in
theorem cloneSx_nil (n c : Nat) (zs : List SpanD) (w : World) (hI : IsT 2 SpanD.cells w none n zs) : Calls Tryz.prog 56 #[(.slice none n c)] w (fun e w' => ∃ A' c', e = .returned (.slice A' n c') ∧ NewT 2 SpanD.cells w.heap.size w' A' n c' zs ∧ Below w.heap.size w w') := by
  refine calls_ax (vs := [(.slice none n c)]) Tryz.func56 rfl rfl ?_
  refine ac_seq (ac_region ?_)
  refine al_p (q_assign rfl) (al_end (aq_then ?_))
  refine ac_seq (ac_seq (ac_region ?_))
  refine al_p (q_move rfl) (al_p (q_eqlNil0 rfl Tryz.underlying45) (al_end (aq_then ?_)))
  refine ac_condT rfl (ac_seq (ac_region ?_))
  refine al_p (q_assign rfl) (al_end (aq_then ?_))
  refine ac_ret (aq_thenR (ret1 Tryz.results56 rfl (fun w9 hs => ?_)))
  have h0 : n = 0 := by
    rcases Nat.eq_zero_or_pos n with h | h
    · exact h
    · obtain ⟨b, o, e, _⟩ := hI.2 h; cases e
  subst h0
  have hz : zs = [] := List.length_eq_zero_iff.1 hI.1
  subst hz
  exact ⟨none, 0, rfl, ⟨IsT.nil _ _ _ _, (fun b off e => by cases e), by omega, by omega⟩, hs.below⟩
theorem eql_bs_apiSpan_0_ : ∀ w, (Instr.buildSlice 45 0 #[]).run Tryz.prog w = .ok (.slice (some ⟨w.heap.size, 0, none⟩) 0 0) (w.alloc (.cells [].toArray 52)) := by
  intro w; (simp [Instr.buildSlice, Instr.fill, cells_agg, newRow, Tryz.runUnderlying45, Tryz.zeroValue52, Tryz.sizeOf52] <;> (rw [(by kernel_rfl : Array.range 0 = #[])]; simp [Value.cells]))
set_option maxRecDepth 100000 in
theorem cloneSx_some (A : Addr) (n c : Nat) (zs : List SpanD) (w : World) (hI : IsT 2 SpanD.cells w (some A) n zs) (hn : n ≤ 1000000) : Calls Tryz.prog 56 #[(.slice (some A) n c)] w (fun e w' => ∃ A' c', e = .returned (.slice A' n c') ∧ NewT 2 SpanD.cells w.heap.size w' A' n c' zs ∧ Below w.heap.size w w') := by
  refine calls_ax (vs := [(.slice (some A) n c)]) Tryz.func56 rfl rfl ?_
  refine ac_seq (ac_region ?_)
  refine al_p (q_assign rfl) (al_end (aq_then ?_))
  refine ac_seq (ac_seq (ac_region ?_))
  refine al_p (q_move rfl) (al_p (q_eqlNil1 rfl Tryz.underlying45) (al_end (aq_then ?_)))
  refine ac_condF rfl (ac_skip (aq_then (ac_seq (ac_region ?_))))
  refine al_new (fun b => .slice (some ⟨b, 0, none⟩) 0 0) (r_buildSlice .nil (eql_bs_apiSpan_0_)) rfl rfl rfl ?_
  intro b1
  refine al_p (q_move rfl) ?_
  refine al_appendS (i := 0) (z := 2) (bytes := 16) (zv := (.agg #[.int .i64 0, .int .i64 0])) (xs := []) (sp := []) (vs := (zs.flatMap SpanD.cells)) rfl rfl (by simp) (by simp) (by omega) (by omega) rfl (Sor.list (enc := SpanD.cells) (zs := zs) (fun _ => rfl) (fun _ => rfl) hI.1 (fun w9 hs => hI.below hs.below)) Tryz.underlying45 (by kernel_rfl) rfl (by omega) (by decide) rfl rfl (fun b2 c_b2 sp_b2 hc_b2 hk_b2 hl_b2 => ?_)
  refine ⟨_, .k0, ?_⟩
  refine al_p (q_assign rfl) (al_end (aq_then ?_))
  refine ac_ret (ret1 Tryz.results56 rfl (fun w9 hs => ?_))
  exact ⟨_, _, by rw [Nat.zero_add], ⟨isT_box (n := 2) (enc := SpanD.cells) (zs := zs) (fun _ => rfl) (by have h9 := hs.at 0 rfl; simpa using h9) rfl hI.1, fun b off e => hs.new 0 rfl b off e, by omega, hk_b2⟩, hs.below⟩
theorem cloneSx_any (A : Option Addr) (n c : Nat) (zs : List SpanD) (w : World) (hI : IsT 2 SpanD.cells w A n zs) (hn : n ≤ 1000000) : Calls Tryz.prog 56 #[.slice A n c] w (fun e w' => ∃ A' c', e = .returned (.slice A' n c') ∧ NewT 2 SpanD.cells w.heap.size w' A' n c' zs ∧ Below w.heap.size w w') := by
  cases A with
  | none => exact cloneSx_nil n c zs w hI
  | some A => exact cloneSx_some A n c zs w hI hn
set_option maxRecDepth 100000 in
theorem cloneJx_nil (n c : Nat) (zs : List Int) (w : World) (hI : IsT 1 intCells w none n zs) : Calls Tryz.prog 127 #[(.slice none n c)] w (fun e w' => ∃ A' c', e = .returned (.slice A' n c') ∧ NewT 1 intCells w.heap.size w' A' n c' zs ∧ Below w.heap.size w w') := by
  refine calls_ax (vs := [(.slice none n c)]) Tryz.func127 rfl rfl ?_
  refine ac_seq (ac_region ?_)
  refine al_p (q_assign rfl) (al_end (aq_then ?_))
  refine ac_seq (ac_seq (ac_region ?_))
  refine al_p (q_move rfl) (al_p (q_eqlNil0 rfl Tryz.underlying30) (al_end (aq_then ?_)))
  refine ac_condT rfl (ac_seq (ac_region ?_))
  refine al_p (q_assign rfl) (al_end (aq_then ?_))
  refine ac_ret (aq_thenR (ret1 Tryz.results127 rfl (fun w9 hs => ?_)))
  have h0 : n = 0 := by
    rcases Nat.eq_zero_or_pos n with h | h
    · exact h
    · obtain ⟨b, o, e, _⟩ := hI.2 h; cases e
  subst h0
  have hz : zs = [] := List.length_eq_zero_iff.1 hI.1
  subst hz
  exact ⟨none, 0, rfl, ⟨IsT.nil _ _ _ _, (fun b off e => by cases e), by omega, by omega⟩, hs.below⟩
theorem eql_bs_int_0_ : ∀ w, (Instr.buildSlice 30 0 #[]).run Tryz.prog w = .ok (.slice (some ⟨w.heap.size, 0, none⟩) 0 0) (w.alloc (.cells [].toArray 3)) := by
  intro w; (simp [Instr.buildSlice, Instr.fill, cells_agg, newRow, Tryz.runUnderlying30, Tryz.zeroValue3, Tryz.sizeOf3] <;> (rw [(by kernel_rfl : Array.range 0 = #[])]; simp [Value.cells]))
set_option maxRecDepth 100000 in
theorem cloneJx_some (A : Addr) (n c : Nat) (zs : List Int) (w : World) (hI : IsT 1 intCells w (some A) n zs) (hn : n ≤ 1000000) : Calls Tryz.prog 127 #[(.slice (some A) n c)] w (fun e w' => ∃ A' c', e = .returned (.slice A' n c') ∧ NewT 1 intCells w.heap.size w' A' n c' zs ∧ Below w.heap.size w w') := by
  refine calls_ax (vs := [(.slice (some A) n c)]) Tryz.func127 rfl rfl ?_
  refine ac_seq (ac_region ?_)
  refine al_p (q_assign rfl) (al_end (aq_then ?_))
  refine ac_seq (ac_seq (ac_region ?_))
  refine al_p (q_move rfl) (al_p (q_eqlNil1 rfl Tryz.underlying30) (al_end (aq_then ?_)))
  refine ac_condF rfl (ac_skip (aq_then (ac_seq (ac_region ?_))))
  refine al_new (fun b => .slice (some ⟨b, 0, none⟩) 0 0) (r_buildSlice .nil (eql_bs_int_0_)) rfl rfl rfl ?_
  intro b1
  refine al_p (q_move rfl) ?_
  refine al_appendS (i := 0) (z := 1) (bytes := 8) (zv := (.int .i64 0)) (xs := []) (sp := []) (vs := (zs.flatMap intCells)) rfl rfl (by simp) (by simp) (by omega) (by omega) rfl (Sor.list (enc := intCells) (zs := zs) (fun _ => rfl) (fun _ => rfl) hI.1 (fun w9 hs => hI.below hs.below)) Tryz.underlying30 (by kernel_rfl) rfl (by omega) (by decide) rfl rfl (fun b2 c_b2 sp_b2 hc_b2 hk_b2 hl_b2 => ?_)
  refine ⟨_, .k0, ?_⟩
  refine al_p (q_assign rfl) (al_end (aq_then ?_))
  refine ac_ret (ret1 Tryz.results127 rfl (fun w9 hs => ?_))
  exact ⟨_, _, by rw [Nat.zero_add], ⟨isT_box (n := 1) (enc := intCells) (zs := zs) (fun _ => rfl) (by have h9 := hs.at 0 rfl; simpa using h9) rfl hI.1, fun b off e => hs.new 0 rfl b off e, by omega, hk_b2⟩, hs.below⟩
theorem cloneJx_any (A : Option Addr) (n c : Nat) (zs : List Int) (w : World) (hI : IsT 1 intCells w A n zs) (hn : n ≤ 1000000) : Calls Tryz.prog 127 #[.slice A n c] w (fun e w' => ∃ A' c', e = .returned (.slice A' n c') ∧ NewT 1 intCells w.heap.size w' A' n c' zs ∧ Below w.heap.size w w') := by
  cases A with
  | none => exact cloneJx_nil n c zs w hI
  | some A => exact cloneJx_some A n c zs w hI hn
end
end Go.Proofs.YtogcjgjhmlifgaaGreat
