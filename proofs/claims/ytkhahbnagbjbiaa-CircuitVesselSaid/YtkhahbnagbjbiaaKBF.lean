import Derived.Test.YtkhahbnagbjbiaaKBD
import Derived.Test.YtkhahbnagbjbiaaKBE
import Derived.Test.YtkhahbnagbjbiaaRows
import Derived.KernelRfl
import Derived.Laws.StructEq
section
/- The law CircuitVessel, over this seat's translation (written by ax_ci30.py). -/
namespace Go.Proofs.Ytkhahbnagbjbiaa
set_option linter.unusedVariables false
set_option linter.unusedSimpArgs false
open Go.RowKit

theorem indE_ok {M : MachD} {S : StD} {co pl : List Int} (h : indE M S co pl = 0) : FitS M S ∧ validCh M co 1000000 = true ∧ FitP M pl := by
  unfold indE at h; split at h
  · rename_i h1; exact ⟨fitS_iff.1 h1.1, validSrc_iff.1 h1.2⟩
  · cases h
def szI (n : Int) : Int := if n < 0 then wrap64 (-n) else n
theorem szI_of {n : Int} (h : -1000000000000000000 ≤ n ∧ n ≤ 1000000000000000000) : szI n = max n (-n) := by
  unfold szI
  split
  · have e : wrap64 (-n) = -n := by unfold wrap64; omega
    rw [e]; omega
  · omega
theorem tdiv_split (p s : Int) (hs : 0 < s) : ∃ r, p = s * p.tdiv s + r ∧ -s < r ∧ r < s ∧ (0 ≤ p → 0 ≤ r) ∧ (p ≤ 0 → r ≤ 0) := by
  have key : ∀ q : Int, 0 ≤ q → q = s * q.tdiv s + q % s ∧ 0 ≤ q % s ∧ q % s < s := fun q hq => by
    rw [Int.tdiv_eq_ediv_of_nonneg hq]
    exact ⟨(Int.mul_ediv_add_emod q s).symm, Int.emod_nonneg _ (by omega), Int.emod_lt_of_pos _ hs⟩
  rcases Int.lt_or_le p 0 with h | h
  · obtain ⟨h1, h2, h3⟩ := key (-p) (by omega)
    refine ⟨-((-p) % s), ?_, by omega, by omega, fun g => by omega, fun _ => by omega⟩
    rw [Int.neg_tdiv, Int.mul_neg] at h1
    omega
  · obtain ⟨h1, h2, h3⟩ := key p h
    refine ⟨p % s, h1, by omega, h3, fun _ => h2, fun g => ?_⟩
    have : p = 0 := by omega
    subst this; simp
theorem two_tdiv (p q s : Int) (hs : 0 < s) : -1 ≤ (p + q).tdiv s - p.tdiv s - q.tdiv s ∧ (p + q).tdiv s - p.tdiv s - q.tdiv s ≤ 1 := by
  obtain ⟨r1, e1, a1, b1, c1, d1⟩ := tdiv_split p s hs
  obtain ⟨r2, e2, a2, b2, c2, d2⟩ := tdiv_split q s hs
  obtain ⟨r3, e3, a3, b3, c3, d3⟩ := tdiv_split (p + q) s hs
  have h : s * ((p + q).tdiv s - p.tdiv s - q.tdiv s) = r1 + r2 - r3 := by rw [Int.mul_sub, Int.mul_sub]; omega
  generalize (p + q).tdiv s - p.tdiv s - q.tdiv s = k at h ⊢
  have h2 : s * k < s * 2 := by omega
  have h3 : s * (-2) < s * k := by omega
  have := Int.lt_of_mul_lt_mul_left h2 (by omega)
  have := Int.lt_of_mul_lt_mul_left h3 (by omega)
  omega
theorem dotTo_add (f g : Nat → Int) : ∀ n : Nat, dotTo (fun k => f k + g k) n = dotTo f n + dotTo g n
  | 0 => rfl
  | n + 1 => by simp only [dotTo]; rw [dotTo_add f g n]; omega
theorem iA_left {a b : List Int} {j : Nat} (h : j < a.length) : iA (a ++ b) j = iA a j := by
  unfold iA; rw [List.getD_eq_getElem?_getD, List.getD_eq_getElem?_getD, List.getElem?_append_left h]
theorem iA_right {a b : List Int} {j : Nat} (h : a.length ≤ j) : iA (a ++ b) j = iA b (j - a.length) := by
  unfold iA; rw [List.getD_eq_getElem?_getD, List.getD_eq_getElem?_getD, List.getElem?_append_right h]
def sumL (a b : List Int) : List Int := lst a.length fun k => iA a k + iA b k
theorem ind_two {M : MachD} (hc : checkC M = 0) {a b ce : List Int} (ha : a.length = b.length) (h0 : ∀ y ∈ ce, y = 0) {i : Nat} (hi : i < M.shells.length) : -1 ≤ indA M (sumL a b) ce i - indA M a ce i - indA M b ce i ∧ indA M (sumL a b) ce i - indA M a ce i - indA M b ce i ≤ 1 := by
  have e : dotTo (termA M (sumL a b) ce (sA M i)) (M.coils.length + cellN M) = dotTo (termA M a ce (sA M i)) (M.coils.length + cellN M) + dotTo (termA M b ce (sA M i)) (M.coils.length + cellN M) := by
    rw [← dotTo_add]
    refine dotTo_ext _ fun k _ => ?_
    simp only [termA]
    rw [← Int.mul_add]
    congr 1
    have hl : (sumL a b).length = a.length := lst_length _ _
    rcases Nat.lt_or_ge k a.length with g | g
    · rw [iA_left (by omega), iA_left g, iA_left (by omega), sumL, iA_lst _ g]
    · rw [iA_right (by omega), iA_right g, iA_right (by omega), iA_zero h0, iA_zero h0, iA_zero h0]; rfl
  unfold indA
  rw [e]
  exact two_tdiv _ _ _ (by have := (sA_ok hc hi).self; omega)
/-- without trips and changes a shell's current goes towards 0 -/
theorem vessel_now {M : MachD} {S : StD} (hf : FitS M S) (ht : ∀ j, j < M.coils.length → bA S.trip j = false) (hq : ∀ j, j < M.coils.length → szI (iA S.C.coils j) ≤ (cA M j).cur) {k : Nat} (hk : k < M.shells.length) : (0 < iA S.C.shells k → 0 ≤ iA (coastD M S 1).C.shells k ∧ iA (coastD M S 1).C.shells k < iA S.C.shells k) ∧ (iA S.C.shells k = 0 → iA (coastD M S 1).C.shells k = 0) ∧ (iA S.C.shells k < 0 → iA S.C.shells k < iA (coastD M S 1).C.shells k ∧ iA (coastD M S 1).C.shells k ≤ 0) := by
  have h0 : ∀ j, j < M.coils.length → appA M S (zerosI M.coils.length) j = 0 := fun j hj => by
    have h1 := hf.cur.coils.2 _ (List.mem_of_getElem? (iA_get (l := S.C.coils) (k := j) (by have := hf.cur.coils.1; omega)))
    have h2 := hq j hj
    rw [szI_of (by omega)] at h2
    unfold appA
    rw [iA_zeros, ht j hj]
    exact appI_still (cA_ok hf.cur.check hj) (by omega)
  have e := (calm_step hf h0).2 k hk
  have e1 : coastD M S 1 = stepD M S (zerosI M.coils.length) S.C.plasma := rfl
  rw [e1, e]
  have hl := lost_bd (cur := iA S.C.shells k) (sA_ok hf.cur.check hk).loss
  refine ⟨fun g => ?_, fun g => ?_, fun g => ?_⟩
  · have := hl.1 (by omega); have := this.2.2 g; omega
  · have := hl.1 (by omega); omega
  · have := hl.2 g; omega

set_option maxRecDepth 100000 in
theorem lsize_any (n : Int) (w : World) : Calls Try.prog 8 #[(.int .i64 n)] w (Ret (.int .i64 (szI n)) w) := by
  refine calls_ax (vs := [(.int .i64 n)]) Try.func8 rfl rfl ?_
  refine ac_seq ?_
  refine ac_region ?_
  refine al_q (q_assign rfl) rfl rfl rfl ?_
  refine al_end ?_
  refine aq_then ?_
  refine ac_seq ?_
  refine ac_seq ?_
  refine ac_region ?_
  refine al_q (q_move rfl) rfl rfl rfl ?_
  refine al_q (q_lss rfl rfl) rfl rfl rfl ?_
  refine al_end ?_
  refine aq_then ?_
  refine ac_cond rfl (fun h1 => ?_) (fun h1 => ?_)
  · have e1 : szI n = wrap64 (-n) := if_pos (of_decide_eq_true h1)
    refine ac_seq ?_
    refine ac_region ?_
    refine al_q (q_move rfl) rfl rfl rfl ?_
    refine al_q (q_negW rfl) rfl rfl rfl ?_
    refine al_q (q_assign rfl) rfl rfl rfl ?_
    refine al_end ?_
    refine aq_then ?_
    refine ac_ret ?_
    refine aq_thenR ?_
    refine ret1 Try.results8 rfl (fun w9 hs => ?_)
    rw [e1]; exact ⟨rfl, hs.below⟩
  · have e1 : szI n = n := if_neg (of_decide_eq_false h1)
    refine ac_skip ?_
    refine aq_then ?_
    refine ac_seq ?_
    refine ac_region ?_
    refine al_q (q_move rfl) rfl rfl rfl ?_
    refine al_q (q_assign rfl) rfl rfl rfl ?_
    refine al_end ?_
    refine aq_then ?_
    refine ac_ret ?_
    refine ret1 Try.results8 rfl (fun w9 hs => ?_)
    rw [e1]; exact ⟨rfl, hs.below⟩

theorem kmc_bs_int_1_0_ (a0 : Value) (ha0 : a0.oneCell' = true) : ∀ w, (Instr.buildSlice 30 1 #[(0, a0)]).run Try.prog w = .ok (.slice (some ⟨w.heap.size, 0, none⟩) 1 1) (w.alloc (.cells [a0].toArray 3)) := by
  have ea0 : a0.cells = #[a0] := cells_one ha0
  intro w; (simp [Instr.buildSlice, Instr.fill, cells_agg, newRow, Try.runUnderlying30, Try.zeroValue3, Try.sizeOf3, ea0] <;> (rw [(by kernel_rfl : Array.range 1 = #[0])]; simp [Value.cells]))

set_option maxRecDepth 100000 in
theorem vessel_walk (R : MachR) (M : MachD) (RS : StR) (S : StD) (A1 A2 B1 B2 : Option Addr) (l1 c1 l2 c2 lb1 cb1 lb2 cb2 : Nat) (ch pl cg pg : List Int) (w : World) (hM0 : R.la ≤ 1000000000000000 → R.lb ≤ 1000000000000000 → R.lc ≤ 1000000000000000 → R.ld ≤ 1000000000000000 → IsM w R M) (hS0 : RS.Q.la ≤ 1000000000000000 → RS.Q.lb ≤ 1000000000000000 → RS.Q.lc ≤ 1000000000000000 → RS.lh ≤ 1000000000000000 → IsS w RS S) (i1 : IsT 1 intCells w A1 l1 ch) (j1 : IsT 1 intCells w B1 lb1 cg) (k1 : l1 ≤ c1 ∧ c1 ≤ 9223372036854775807) (k3 : lb1 ≤ cb1 ∧ cb1 ≤ 9223372036854775807) : Calls Try.prog 3 #[(.agg #[.string M.name, .slice R.A R.la R.ca, .slice R.B R.lb R.cb, .slice R.C R.lc R.cc, .int .i64 M.grid.r, .int .i64 M.grid.z, .int .i64 M.grid.nr, .int .i64 M.grid.nz, .int .i64 M.grid.step, .slice R.D R.ld R.cd, .int .i64 S.tick, .slice RS.Q.A RS.Q.la RS.Q.ca, .slice RS.Q.B RS.Q.lb RS.Q.cb, .slice RS.Q.C RS.Q.lc RS.Q.cc, .slice RS.H RS.lh RS.ch, .slice RS.T RS.lt RS.ct, .slice A1 l1 c1, .slice A2 l2 c2, .slice B1 lb1 cb1, .slice B2 lb2 cb2])] w (Ret (.bool true) w) := by
  refine calls_ax (vs := [(.agg #[.string M.name, .slice R.A R.la R.ca, .slice R.B R.lb R.cb, .slice R.C R.lc R.cc, .int .i64 M.grid.r, .int .i64 M.grid.z, .int .i64 M.grid.nr, .int .i64 M.grid.nz, .int .i64 M.grid.step, .slice R.D R.ld R.cd, .int .i64 S.tick, .slice RS.Q.A RS.Q.la RS.Q.ca, .slice RS.Q.B RS.Q.lb RS.Q.cb, .slice RS.Q.C RS.Q.lc RS.Q.cc, .slice RS.H RS.lh RS.ch, .slice RS.T RS.lt RS.ct, .slice A1 l1 c1, .slice A2 l2 c2, .slice B1 lb1 cb1, .slice B2 lb2 cb2])]) Try.func3 rfl rfl ?_
  refine ac_seq ?_
  refine ac_region ?_
  refine al_new (fun b => .pointer (some ⟨b, 0, none⟩)) (r_box rfl rfl) rfl rfl rfl ?_
  intro b1
  refine al_q (q_assign rfl) rfl rfl rfl ?_
  refine al_end ?_
  refine aq_then ?_
  refine ac_seq ?_
  refine ac_draw 15 (by kernel_rfl) (by kernel_rfl) ?_
  refine ah_share (fuel' := 4) (listed' := #[true, true, true, true, true, true, true, true, true, true, true, true, false, false, false, false]) (fun K => ∀ (b1001 : Nat), ∀ (b5001 : Nat), ∀ (b17001 : Nat), ∀ (b29001 : Nat), K [(1, (.pointer (some ⟨b1, 0, none⟩))), (2, (.bool false)), (3, (.pointer (some ⟨b1001, 0, none⟩))), (4, (.pointer (some ⟨b5001, 0, none⟩))), (5, (.pointer (some ⟨b17001, 0, none⟩))), (6, (.pointer (some ⟨b29001, 0, none⟩))), (23, (.pointer (some ⟨b1, 0, none⟩))), (24, (.agg #[(.string M.name), (.slice (R.A) R.la R.ca), (.slice (R.B) R.lb R.cb), (.slice (R.C) R.lc R.cc), (.int .i64 M.grid.r), (.int .i64 M.grid.z), (.int .i64 M.grid.nr), (.int .i64 M.grid.nz), (.int .i64 M.grid.step), (.slice (R.D) R.ld R.cd)])), (25, (.pointer (some ⟨b1, 10, none⟩))), (26, (.agg #[(.int .i64 S.tick), (.slice RS.Q.A RS.Q.la RS.Q.ca), (.slice RS.Q.B RS.Q.lb RS.Q.cb), (.slice RS.Q.C RS.Q.lc RS.Q.cc), (.slice RS.H RS.lh RS.ch), (.slice RS.T RS.lt RS.ct)])), (27, (.pointer (some ⟨b1, 16, none⟩))), (28, (.agg #[(.slice A1 l1 c1), (.slice A2 l2 c2)])), (29, (.pointer (some ⟨b1, 18, none⟩))), (30, (.agg #[(.slice B1 lb1 cb1), (.slice B2 lb2 cb2)]))] [(b29001, .cells [(.slice none 0 0), (.slice none 0 0)]), (b17001, .cells [(.slice none 0 0), (.slice none 0 0)]), (b5001, .cells [(.int .i64 0), (.slice none 0 0), (.slice none 0 0), (.slice none 0 0), (.slice none 0 0), (.slice none 0 0)]), (b1001, .cells [(.string { data := #[] }), (.slice none 0 0), (.slice none 0 0), (.slice none 0 0), (.int .i64 0), (.int .i64 0), (.int .i64 0), (.int .i64 0), (.int .i64 0), (.slice none 0 0)]), (b1, .cells [(.string M.name), (.slice (R.A) R.la R.ca), (.slice (R.B) R.lb R.cb), (.slice (R.C) R.lc R.cc), (.int .i64 M.grid.r), (.int .i64 M.grid.z), (.int .i64 M.grid.nr), (.int .i64 M.grid.nz), (.int .i64 M.grid.step), (.slice (R.D) R.ld R.cd), (.int .i64 S.tick), (.slice RS.Q.A RS.Q.la RS.Q.ca), (.slice RS.Q.B RS.Q.lb RS.Q.cb), (.slice RS.Q.C RS.Q.lc RS.Q.cc), (.slice RS.H RS.lh RS.ch), (.slice RS.T RS.lt RS.ct), (.slice A1 l1 c1), (.slice A2 l2 c2), (.slice B1 lb1 cb1), (.slice B2 lb2 cb2)])]) ?_ (fun hS1_0 => ?_)
  · intro b1001 b5001 b17001 b29001
    refine ah_one 12 rfl (by kernel_rfl) (fun hok1 hcl1 => ?_)
    refine al_storeAll (i := 3) rfl rfl rfl rfl Try.sizeOf29 rfl rfl .k3 rfl ?_
    refine al_end (ah_back hok1 hcl1 (fun w9 hs => (hs.tail 4 rfl)) ?_)
    refine ah_one 13 rfl (by kernel_rfl) (fun hok2 hcl2 => ?_)
    refine al_storeAll (i := 2) rfl rfl rfl rfl Try.sizeOf35 rfl rfl .k2 rfl ?_
    refine al_end (ah_back hok2 hcl2 (fun w9 hs => (hs.tail 4 rfl)) ?_)
    refine ah_one 14 rfl (by kernel_rfl) (fun hok3 hcl3 => ?_)
    refine al_storeAll (i := 1) rfl rfl rfl rfl Try.sizeOf37 rfl rfl .k1 rfl ?_
    refine al_end (ah_back hok3 hcl3 (fun w9 hs => (hs.tail 4 rfl)) ?_)
    refine ah_one 15 rfl (by kernel_rfl) (fun hok4 hcl4 => ?_)
    refine al_storeAll (i := 0) rfl rfl rfl rfl Try.sizeOf37 rfl rfl .k0 rfl ?_
    refine al_end (ah_last (by kernel_rfl) ?_)
    refine aq_then ?_
    refine ac_seq ?_
    refine ac_seq ?_
    refine ac_region ?_
    refine al_q (q_loadAll (i := 3) rfl rfl Try.isAgg29 Try.sizeOf29 rfl) rfl rfl rfl ?_
    refine al_q (q_loadAll (i := 2) rfl rfl Try.isAgg35 Try.sizeOf35 rfl) rfl rfl rfl ?_
    refine al_call Try.call5 (.cons rfl (.cons rfl .nil)) rfl rfl (fun w1 hs1 => ?_)
    refine (brief3_any R M RS S _).mono ?_
    rintro e u1 ⟨bb, rfl, hbb, hb_1⟩
    refine ⟨_, rfl, hb_1, ?_⟩
    clear hs1
    refine al_q (q_not rfl) rfl rfl rfl ?_
    refine al_end ?_
    refine aq_then ?_
    refine ac_cond rfl (fun h1 => ?_) (fun h1 => ?_)
    · skip
      refine ac_seq ?_
      refine ac_region ?_
      refine al_call Try.call6 .nil rfl rfl (fun w2 hs2 => ?_)
      refine (awake3_any _).mono ?_
      rintro e u2 ⟨rfl, hb_2⟩
      refine ⟨_, rfl, hb_2, ?_⟩
      clear hs2
      refine al_q (q_assign rfl) rfl rfl rfl ?_
      refine al_end ?_
      refine aq_then ?_
      refine ac_ret ?_
      refine aq_thenR ?_
      refine ret1 Try.results3 rfl (fun w9 hs => ?_)
      exact ⟨rfl, hs.below⟩
    · have hB := hbb (by simpa using h1)
      obtain ⟨⟨m1, m2, m3, m4⟩, m5, m6, m7, m8⟩ := hB
      have hM := hM0 (by omega) (by omega) (by omega) (by omega)
      have hS := hS0 (by omega) (by omega) (by omega) (by omega)
      refine ac_skip ?_
      refine aq_then ?_
      refine ac_seq ?_
      refine ac_region ?_
      refine al_q (q_loadAll (i := 3) rfl rfl Try.isAgg29 Try.sizeOf29 rfl) rfl rfl rfl ?_
      refine al_q (q_loadAll (i := 2) rfl rfl Try.isAgg35 Try.sizeOf35 rfl) rfl rfl rfl ?_
      refine al_q (q_fieldAddr 0 rfl Try.runUnderlying37 rfl Try.sizeOf30 (by decide) rfl) rfl rfl rfl ?_
      refine al_q (q_load (i := 1) rfl rfl rfl Try.isAgg30) rfl rfl rfl ?_
      refine al_q (q_fieldAddr 1 rfl Try.runUnderlying35 rfl Try.sizeOf32 (by decide) rfl) rfl rfl rfl ?_
      refine al_q (q_fieldAddr 3 rfl Try.runUnderlying32 rfl Try.sizeOf30 (by decide) rfl) rfl rfl rfl ?_
      refine al_q (q_load (i := 2) rfl rfl rfl Try.isAgg30) rfl rfl rfl ?_
      refine al_call Try.call7 (.cons rfl (.cons rfl (.cons rfl (.cons rfl .nil)))) rfl rfl (fun w3 hs3 => ?_)
      refine (cinduced_any R M RS S A1 RS.Q.C l1 c1 RS.Q.lc RS.Q.cc ch S.C.plasma _ (hM.below hs3.below) (hS.below hs3.below) (i1.below hs3.below) (hS.cur.plasma.below hs3.below) k1 ⟨hS.cur.lc, hS.cur.cc⟩).mono ?_
      rintro e u3 ⟨A_p, n_p, c_p, rfl, I_p, F_p, L_p, hb_3⟩
      refine ⟨_, rfl, hb_3, ?_⟩
      clear hs3
      refine al_q (q_move rfl) rfl rfl rfl ?_
      refine al_q (q_extract rfl rfl) rfl rfl rfl ?_
      refine al_q (q_extract rfl rfl) rfl rfl rfl ?_
      refine al_q (q_assign rfl) rfl rfl rfl ?_
      refine al_q (q_assign rfl) rfl rfl rfl ?_
      refine al_end ?_
      refine aq_then ?_
      refine ac_seq ?_
      refine ac_region ?_
      refine al_q (q_loadAll (i := 3) rfl rfl Try.isAgg29 Try.sizeOf29 rfl) rfl rfl rfl ?_
      refine al_q (q_loadAll (i := 2) rfl rfl Try.isAgg35 Try.sizeOf35 rfl) rfl rfl rfl ?_
      refine al_q (q_fieldAddr 0 rfl Try.runUnderlying37 rfl Try.sizeOf30 (by decide) rfl) rfl rfl rfl ?_
      refine al_q (q_load (i := 0) rfl rfl rfl Try.isAgg30) rfl rfl rfl ?_
      refine al_q (q_fieldAddr 1 rfl Try.runUnderlying35 rfl Try.sizeOf32 (by decide) rfl) rfl rfl rfl ?_
      refine al_q (q_fieldAddr 3 rfl Try.runUnderlying32 rfl Try.sizeOf30 (by decide) rfl) rfl rfl rfl ?_
      refine al_q (q_load (i := 2) rfl rfl rfl Try.isAgg30) rfl rfl rfl ?_
      refine al_call Try.call7 (.cons rfl (.cons rfl (.cons rfl (.cons rfl .nil)))) rfl rfl (fun w4 hs4 => ?_)
      refine (cinduced_any R M RS S B1 RS.Q.C lb1 cb1 RS.Q.lc RS.Q.cc cg S.C.plasma _ (hM.below hs4.below) (hS.below hs4.below) (j1.below hs4.below) (hS.cur.plasma.below hs4.below) k3 ⟨hS.cur.lc, hS.cur.cc⟩).mono ?_
      rintro e u4 ⟨A_q, n_q, c_q, rfl, I_q, F_q, L_q, hb_4⟩
      refine ⟨_, rfl, hb_4, ?_⟩
      clear hs4
      refine al_q (q_move rfl) rfl rfl rfl ?_
      refine al_q (q_extract rfl rfl) rfl rfl rfl ?_
      refine al_q (q_extract rfl rfl) rfl rfl rfl ?_
      refine al_q (q_assign rfl) rfl rfl rfl ?_
      refine al_q (q_assign rfl) rfl rfl rfl ?_
      refine al_end ?_
      refine aq_then ?_
      refine ac_cut (β := Unit) (fun y0 => True) (fun y0 => [(2, (.bool false)), (3, (.pointer (some ⟨b1001, 0, none⟩))), (4, (.pointer (some ⟨b5001, 0, none⟩)))]) (fun y0 => []) (fun y0 L9 => L9) (fun X9 hX9 => ?_) (fun y0 hF9 => ?_)
      · refine ac_seq ?_
        refine ac_region ?_
        refine al_q (q_move rfl) rfl rfl rfl ?_
        refine al_q (q_eql rfl rfl) rfl rfl rfl ?_
        refine al_q (q_move rfl) rfl rfl rfl ?_
        refine aq_split 60 rfl (fun hb1 => ?_) (fun hb1 => ?_)
        · have hE1 : indE M S ch S.C.plasma = 0 := by simpa using hb1
          obtain ⟨hf, hv1⟩ := indE_ok hE1
          have hc0 := hf.cur.check
          have e1 := validCh_iff.1 hv1.1
          have n1 := hM.coils.1
          have n2 := hM.shells.1
          have n3 := i1.1
          obtain ⟨s1, s2⟩ := smallC hM hc0
          refine al_q (q_move rfl) rfl rfl rfl ?_
          refine al_q (q_eql rfl rfl) rfl rfl rfl ?_
          refine al_q (q_pickT rfl rfl) rfl rfl rfl ?_
          refine al_q (q_move rfl) rfl rfl rfl ?_
          refine aq_split 64 rfl (fun hb2 => ?_) (fun hb2 => ?_)
          · have hE2 : indE M S cg S.C.plasma = 0 := by simpa using hb2
            obtain ⟨-, hv2⟩ := indE_ok hE2
            have e2 := validCh_iff.1 hv2.1
            have n4 := j1.1
            refine al_q (q_fieldAddr 0 rfl Try.runUnderlying37 rfl Try.sizeOf30 (by decide) rfl) rfl rfl rfl ?_
            refine al_q (q_load (i := 1) rfl rfl rfl Try.isAgg30) rfl rfl rfl ?_
            refine al_q (q_lenS rfl Try.runUnderlying30) rfl rfl rfl ?_
            refine al_q (q_fieldAddr 0 rfl Try.runUnderlying37 rfl Try.sizeOf30 (by decide) rfl) rfl rfl rfl ?_
            refine al_q (q_load (i := 0) rfl rfl rfl Try.isAgg30) rfl rfl rfl ?_
            refine al_q (q_lenS rfl Try.runUnderlying30) rfl rfl rfl ?_
            refine al_q (q_eql rfl rfl) rfl rfl rfl ?_
            refine al_q (q_pickT rfl rfl) rfl rfl rfl ?_
            refine al_end ?_
            refine aq_then ?_
            refine ac_cond rfl (fun h2 => ?_) (fun h2 => ?_)
            · have hll : l1 = lb1 := by have := of_decide_eq_true h2; omega
              refine ac_seq ?_
              refine ac_region ?_
              refine al_q (q_assign rfl) rfl rfl rfl ?_
              refine al_end ?_
              refine aq_then ?_
              refine ac_seq ?_
              refine ac_seq ?_
              refine ac_region ?_
              refine al_q (q_assign rfl) rfl rfl rfl ?_
              refine al_end ?_
              refine aq_then ?_
              refine ac_block ?_
              refine ac_loop (β := Nat × Gr × List Value) (fun x1 => x1.1 ≤ l1 ∧ gok x1.2.1 x1.1 1 x1.2.2 ∧ x1.2.2 = (lst x1.1 (fun k => iA ch k + iA cg k)).map (Value.int .i64)) (fun x1 => [(2, (.bool false)), (3, (.pointer (some ⟨b1001, 0, none⟩))), (4, (.pointer (some ⟨b5001, 0, none⟩))), (5, (.pointer (some ⟨b17001, 0, none⟩))), (6, (.pointer (some ⟨b29001, 0, none⟩))), (7, (.slice A_p n_p c_p)), (9, (.slice A_q n_q c_q)), (11, (.slice (gA x1.2.1) x1.1 (gC x1.2.1))), (12, (.int .i64 (x1.1 : Int)))]) (fun _ => _) (fun x1 => (b29001, _) :: (b17001, _) :: (b5001, _) :: (b1001, _) :: (b1, _) :: (gt x1.2.1 x1.2.2 ++ ([]))) (fun x1 => l1 - x1.1) (0, none, []) ⟨by simp, gok.none 1, rfl⟩ ⟨rfl, rfl, rfl, rfl, rfl, rfl, rfl, rfl, rfl, trivial⟩ (fun w9 hs => (by rw [show gt none [] = [] from rfl, List.nil_append]; exact hs)) (fun x1 hF1 => ?_)
              obtain ⟨hla1, hg1, hcs1⟩ := hF1
              refine ac_seq ?_
              refine ac_seq ?_
              refine ac_region ?_
              refine al_q (q_move rfl) rfl rfl rfl ?_
              refine al_q (q_fieldAddr 0 rfl Try.runUnderlying37 rfl Try.sizeOf30 (by decide) rfl) rfl rfl rfl ?_
              refine al_q (q_load (i := 1) rfl rfl rfl Try.isAgg30) rfl rfl rfl ?_
              refine al_q (q_lenS rfl Try.runUnderlying30) rfl rfl rfl ?_
              refine al_q (q_lss rfl rfl) rfl rfl rfl ?_
              refine al_end ?_
              refine aq_then ?_
              refine ac_cond rfl (fun h3 => ?_) (fun h3 => ?_)
              · have hxl : x1.1 < l1 := by have := of_decide_eq_true h3; omega
                obtain ⟨b11, o11, hA1, hlt1, hget1⟩ := i1.2 (by omega)
                have hx1 := iA_get (l := ch) (k := x1.1) (by omega)
                obtain ⟨b21, o21, hA2, hlt2, hget2⟩ := j1.2 (by omega)
                have hx2 := iA_get (l := cg) (k := x1.1) (by omega)
                have q1 := e1.2 _ (List.mem_of_getElem? hx1)
                have q2 := e2.2 _ (List.mem_of_getElem? hx2)
                refine ac_skip ?_
                refine aq_then ?_
                refine ac_seq ?_
                refine ac_block ?_
                refine ac_drawF 14 (.s (.s (.s (.s (.s .z))))) (by kernel_rfl) (by kernel_rfl) ?_
                refine ah_take 0 (fun w9 hs => (hs.front (.s (.s (.s (.s (.s (.z)))))))) rfl rfl rfl (by kernel_rfl) (by kernel_rfl) (by kernel_rfl) (fun _ _ _ h => h) rfl (q_move rfl) ?_
                refine ah_take 1 (fun w9 hs => (hs.front (.s (.s (.s (.s (.s (.z)))))))) rfl rfl rfl (by kernel_rfl) (by kernel_rfl) (by kernel_rfl) (fun _ _ _ h => h) rfl (q_fieldAddr 0 rfl Try.runUnderlying37 rfl Try.sizeOf30 (by decide) rfl) ?_
                refine ah_take 2 (fun w9 hs => (hs.front (.s (.s (.s (.s (.s (.z)))))))) rfl rfl rfl (by kernel_rfl) (by kernel_rfl) (by kernel_rfl) (fun _ _ _ h => h) rfl (q_load (i := 1) rfl rfl rfl Try.isAgg30) ?_
                refine ah_take 3 (fun w9 hs => (hs.front (.s (.s (.s (.s (.s (.z)))))))) rfl rfl rfl (by kernel_rfl) (by kernel_rfl) (by kernel_rfl) (fun _ _ _ h => h) rfl (q_move rfl) ?_
                refine ah_take 4 (fun w9 hs => (hs.front (.s (.s (.s (.s (.s (.z)))))))) rfl rfl rfl (by kernel_rfl) (by kernel_rfl) (by kernel_rfl) (fun _ _ _ h => h) rfl (q_indexAddrA (i := x1.1) (o11 + x1.1 * 1 + 0) hA1 rfl rfl rfl (by omega) Try.runUnderlying30 Try.sizeOf3 rfl) ?_
                refine ah_take 5 (fun w9 hs => (hs.front (.s (.s (.s (.s (.s (.z)))))))) rfl rfl rfl (by kernel_rfl) (by kernel_rfl) (by kernel_rfl) (fun _ _ _ h => h) rfl (q_loadX rfl Try.isAgg3 (fun w9 hs => (hs.below.cell (p := ⟨_, _, none⟩) hlt1).trans ((hget1 x1.1 _ hx1) 0 _ rfl))) ?_
                refine ah_take 6 (fun w9 hs => (hs.front (.s (.s (.s (.s (.s (.z)))))))) rfl rfl rfl (by kernel_rfl) (by kernel_rfl) (by kernel_rfl) (fun _ _ _ h => h) rfl (q_fieldAddr 0 rfl Try.runUnderlying37 rfl Try.sizeOf30 (by decide) rfl) ?_
                refine ah_take 7 (fun w9 hs => (hs.front (.s (.s (.s (.s (.s (.z)))))))) rfl rfl rfl (by kernel_rfl) (by kernel_rfl) (by kernel_rfl) (fun _ _ _ h => h) rfl (q_load (i := 0) rfl rfl rfl Try.isAgg30) ?_
                refine ah_take 8 (fun w9 hs => (hs.front (.s (.s (.s (.s (.s (.z)))))))) rfl rfl rfl (by kernel_rfl) (by kernel_rfl) (by kernel_rfl) (fun _ _ _ h => h) rfl (q_move rfl) ?_
                refine ah_take 9 (fun w9 hs => (hs.front (.s (.s (.s (.s (.s (.z)))))))) rfl rfl rfl (by kernel_rfl) (by kernel_rfl) (by kernel_rfl) (fun _ _ _ h => h) rfl (q_indexAddrA (i := x1.1) (o21 + x1.1 * 1 + 0) hA2 rfl rfl rfl (by omega) Try.runUnderlying30 Try.sizeOf3 rfl) ?_
                refine ah_take 10 (fun w9 hs => (hs.front (.s (.s (.s (.s (.s (.z)))))))) rfl rfl rfl (by kernel_rfl) (by kernel_rfl) (by kernel_rfl) (fun _ _ _ h => h) rfl (q_loadX rfl Try.isAgg3 (fun w9 hs => (hs.below.cell (p := ⟨_, _, none⟩) hlt2).trans ((hget2 x1.1 _ hx2) 0 _ rfl))) ?_
                refine ah_take 11 (fun w9 hs => (hs.front (.s (.s (.s (.s (.s (.z)))))))) rfl rfl rfl (by kernel_rfl) (by kernel_rfl) (by kernel_rfl) (fun _ _ _ h => h) rfl (q_add rfl rfl (by omega)) ?_
                refine ah_one 12 rfl (by kernel_rfl) (fun hok5 hcl5 => ?_)
                refine al_new (fun b => .slice (some ⟨b, 0, none⟩) 1 1) (r_buildSlice (.cons rfl .nil) (kmc_bs_int_1_0_ _ rfl)) rfl rfl rfl ?_
                intro b2
                refine al_end (ah_back hok5 hcl5 (fun w9 hs => ((hs.tail 1 rfl).front (.s (.s (.s (.s (.s (.z)))))))) ?_)
                refine ah_one 13 rfl (by kernel_rfl) (fun hok6 hcl6 => ?_)
                refine al_grow (z := 1) (bytes := 8) (zv := (.int .i64 0)) (o := x1.2.1) (cs := x1.2.2) (vs := [.int .i64 (iA ch x1.1 + iA cg x1.1)]) rfl rfl (.s (.s (.s (.s (.s (.s (.z))))))) hg1 (Sor.box (j := 0) rfl rfl rfl) Try.underlying30 (by kernel_rfl) rfl (by omega) (by decide) rfl rfl (fun o_1 g_1 => ?_)
                refine ⟨_, (.s (.s (.s (.s (.s (.s (.z))))))), ?_⟩
                refine al_end (ah_back hok6 hcl6 (fun w9 hs => ((hs.tail 1 rfl).front (.s (.s (.s (.s (.s (.z)))))))) ?_)
                refine ah_take 14 (fun w9 hs => ((hs.tail 1 rfl).front (.s (.s (.s (.s (.s (.z)))))))) rfl rfl rfl (by kernel_rfl) (by kernel_rfl) (by kernel_rfl) (fun _ _ _ h => h) rfl (q_assign rfl) ?_
                refine ah_done (by kernel_rfl) ?_
                refine aq_inN ?_
                refine aq_then ?_
                refine aq_keepL [2, 3, 4, 5, 6, 7, 9, 11, 12, 73, 74, 75, 76, 77, 80, 81, 82, 83, 84, 85, 86, 87, 88, 89, 90, 91, 92, 93] (.cons rfl (.cons rfl (.cons rfl (.cons rfl (.cons rfl (.cons rfl (.cons rfl (.cons rfl (.cons rfl (.cons rfl (.cons rfl (.cons rfl (.cons rfl (.cons rfl (.cons rfl (.cons rfl (.cons rfl (.cons rfl (.cons rfl (.cons rfl (.cons rfl (.cons rfl (.cons rfl (.cons rfl (.cons rfl (.cons rfl (.cons rfl (.cons rfl .nil)))))))))))))))))))))))))))) ?_
                refine ac_region ?_
                refine al_q (q_move rfl) rfl rfl rfl ?_
                refine al_q (q_add rfl rfl (by omega)) rfl rfl rfl ?_
                refine al_q (q_assign rfl) rfl rfl rfl ?_
                refine al_end ?_
                refine aq_then ?_
                skip
                refine aq_round ((x1.1 + 1, o_1, (x1.2.2 ++ [.int .i64 (iA ch x1.1 + iA cg x1.1)]))) (by simp only; omega) ⟨by simp only; omega, g_1, by simp only; rw [hcs1, lst_snoc, List.map_append]; rfl⟩ ⟨rfl, rfl, rfl, rfl, rfl, rfl, rfl, rfl, rfl, trivial⟩ (fun w9 hs => (hs.tail 1 rfl))
              · have hx1e : x1.1 = l1 := by have := of_decide_eq_false h3; omega
                refine ac_exit ?_
                refine aq_thenE ?_
                refine aq_thenE ?_
                refine aq_hit ?_
                refine aq_then ?_
                refine ac_seq ?_
                refine ac_region ?_
                refine al_q (q_loadAll (i := 3) rfl rfl Try.isAgg29 Try.sizeOf29 rfl) rfl rfl rfl ?_
                refine al_q (q_loadAll (i := 2) rfl rfl Try.isAgg35 Try.sizeOf35 rfl) rfl rfl rfl ?_
                refine al_q (q_move rfl) rfl rfl rfl ?_
                refine al_q (q_fieldAddr 1 rfl Try.runUnderlying35 rfl Try.sizeOf32 (by decide) rfl) rfl rfl rfl ?_
                refine al_q (q_fieldAddr 3 rfl Try.runUnderlying32 rfl Try.sizeOf30 (by decide) rfl) rfl rfl rfl ?_
                refine al_q (q_load (i := 2) rfl rfl rfl Try.isAgg30) rfl rfl rfl ?_
                refine al_call Try.call7 (.cons rfl (.cons rfl (.cons rfl (.cons rfl .nil)))) rfl rfl (fun w5 hs5 => ?_)
                refine (cinduced_any R M RS S (gA x1.2.1) RS.Q.C x1.1 (gC x1.2.1) RS.Q.lc RS.Q.cc (sumL ch cg) S.C.plasma _ (hM.below hs5.below) (hS.below hs5.below) (hs5.grown (enc := intCells) (o := x1.2.1) (cs := x1.2.2) (zs := sumL ch cg) (fun _ => rfl) (fun y hy => by simp [hy]) hg1 (by rw [flat_int, hcs1, hx1e, sumL, i1.1]) (by rw [sumL, lst_length, i1.1]; omega)).isT (hS.cur.plasma.below hs5.below) hg1.le ⟨hS.cur.lc, hS.cur.cc⟩).mono ?_
                rintro e u5 ⟨A_r, n_r, c_r, rfl, I_r, F_r, L_r, hb_5⟩
                refine ⟨_, rfl, hb_5, ?_⟩
                clear hs5
                refine al_q (q_move rfl) rfl rfl rfl ?_
                refine al_q (q_extract rfl rfl) rfl rfl rfl ?_
                refine al_q (q_extract rfl rfl) rfl rfl rfl ?_
                refine al_q (q_assign rfl) rfl rfl rfl ?_
                refine al_q (q_assign rfl) rfl rfl rfl ?_
                refine al_end ?_
                refine aq_then ?_
                refine ac_seq ?_
                refine ac_region ?_
                refine al_q (q_assign rfl) rfl rfl rfl ?_
                refine al_end ?_
                refine aq_then ?_
                refine ac_block ?_
                refine ac_loop (β := Nat) (fun x2 => True) (fun x2 => [(2, (.bool false)), (3, (.pointer (some ⟨b1001, 0, none⟩))), (4, (.pointer (some ⟨b5001, 0, none⟩))), (7, (.slice A_p n_p c_p)), (9, (.slice A_q n_q c_q)), (13, (.slice A_r n_r c_r)), (14, (.int .i64 (indE M S (sumL ch cg) S.C.plasma))), (15, (.int .i64 (x2 : Int)))]) (fun _ => _) (fun x2 => (b29001, _) :: (b17001, _) :: (b5001, _) :: (b1001, _) :: (b1, _) :: (gt x1.2.1 x1.2.2 ++ ([]))) (fun x2 => n_r - x2) 0 trivial ⟨rfl, rfl, rfl, rfl, rfl, rfl, rfl, rfl, trivial⟩ (fun w9 hs => hs) (fun x2 hF2 => ?_)
                refine ac_seq ?_
                refine ac_seq ?_
                refine ac_region ?_
                refine al_q (q_move rfl) rfl rfl rfl ?_
                refine al_q (q_move rfl) rfl rfl rfl ?_
                refine al_q (q_lenS rfl Try.runUnderlying30) rfl rfl rfl ?_
                refine al_q (q_lss rfl rfl) rfl rfl rfl ?_
                refine al_q (q_move rfl) rfl rfl rfl ?_
                refine aq_split 108 rfl (fun hb3 => ?_) (fun hb3 => ?_)
                · have hlr := of_decide_eq_true hb3
                  refine al_q (q_move rfl) rfl rfl rfl ?_
                  refine al_q (q_eql rfl rfl) rfl rfl rfl ?_
                  refine al_q (q_pickT rfl rfl) rfl rfl rfl ?_
                  refine al_end ?_
                  refine aq_then ?_
                  refine ac_cond rfl (fun h4 => ?_) (fun h4 => ?_)
                  · have hE3 : indE M S (sumL ch cg) S.C.plasma = 0 := by simpa using h4
                    rw [if_pos hE3] at I_r
                    rw [if_pos hE1] at I_p
                    rw [if_pos hE2] at I_q
                    have t1 : n_r = M.shells.length := by have := I_r.1; rw [indL, lst_length] at this; omega
                    have t2 : n_p = M.shells.length := by have := I_p.1; rw [indL, lst_length] at this; omega
                    have t3 : n_q = M.shells.length := by have := I_q.1; rw [indL, lst_length] at this; omega
                    have hx2l : x2 < M.shells.length := by omega
                    obtain ⟨b_p, o_p, hA_p, hlt_p, hget_p⟩ := I_p.2 (by omega)
                    have hx_p : (indL M ch (subL S.C.plasma S.C.plasma))[x2]? = some (indA M ch (subL S.C.plasma S.C.plasma) x2) := lst_get _ (by omega)
                    obtain ⟨b_q, o_q, hA_q, hlt_q, hget_q⟩ := I_q.2 (by omega)
                    have hx_q : (indL M cg (subL S.C.plasma S.C.plasma))[x2]? = some (indA M cg (subL S.C.plasma S.C.plasma) x2) := lst_get _ (by omega)
                    obtain ⟨b_r, o_r, hA_r, hlt_r, hget_r⟩ := I_r.2 (by omega)
                    have hx_r : (indL M (sumL ch cg) (subL S.C.plasma S.C.plasma))[x2]? = some (indA M (sumL ch cg) (subL S.C.plasma S.C.plasma) x2) := lst_get _ (by omega)
                    obtain ⟨-, hv3⟩ := indE_ok hE3
                    have e3 := validCh_iff.1 hv3.1
                    have hz0 := subL_self S.C.plasma
                    have y1 := ind_bd hc0 (co := ch) (ce := (subL S.C.plasma S.C.plasma)) (fun y hy => (List.mem_append.1 hy).elim (fun h => by have := e1.2 y h; omega) (fun h => by have := hz0 y h; omega)) (i := x2) hx2l
                    have y2 := ind_bd hc0 (co := cg) (ce := (subL S.C.plasma S.C.plasma)) (fun y hy => (List.mem_append.1 hy).elim (fun h => by have := e2.2 y h; omega) (fun h => by have := hz0 y h; omega)) (i := x2) hx2l
                    have y3 := ind_bd hc0 (co := (sumL ch cg)) (ce := (subL S.C.plasma S.C.plasma)) (fun y hy => (List.mem_append.1 hy).elim (fun h => by have := e3.2 y h; omega) (fun h => by have := hz0 y h; omega)) (i := x2) hx2l
                    have y4 := ind_two hc0 (a := ch) (b := cg) (by omega) hz0 hx2l
                    refine ac_skip ?_
                    refine aq_then ?_
                    refine ac_seq ?_
                    refine ac_block ?_
                    refine ac_seq ?_
                    refine ac_drawF 15 (.s (.s (.s (.s (.s .z))))) (by kernel_rfl) (by kernel_rfl) ?_
                    refine ah_take 0 (fun w9 hs => (hs.front (.s (.s (.s (.s (.s (.z)))))))) rfl rfl rfl (by kernel_rfl) (by kernel_rfl) (by kernel_rfl) (fun _ _ _ h => h) rfl (q_move rfl) ?_
                    refine ah_take 1 (fun w9 hs => (hs.front (.s (.s (.s (.s (.s (.z)))))))) rfl rfl rfl (by kernel_rfl) (by kernel_rfl) (by kernel_rfl) (fun _ _ _ h => h) rfl (q_move rfl) ?_
                    refine ah_take 2 (fun w9 hs => (hs.front (.s (.s (.s (.s (.s (.z)))))))) rfl rfl rfl (by kernel_rfl) (by kernel_rfl) (by kernel_rfl) (fun _ _ _ h => h) rfl (q_indexAddrA (i := x2) (o_r + x2 * 1 + 0) hA_r rfl rfl rfl (by omega) Try.runUnderlying30 Try.sizeOf3 rfl) ?_
                    refine ah_take 3 (fun w9 hs => (hs.front (.s (.s (.s (.s (.s (.z)))))))) rfl rfl rfl (by kernel_rfl) (by kernel_rfl) (by kernel_rfl) (fun _ _ _ h => h) rfl (q_loadX rfl Try.isAgg3 (fun w9 hs => (hs.cellOf (.head _) (F_r _ _ hA_r) hlt_r (hget_r x2 _ hx_r 0 _ rfl)))) ?_
                    refine ah_take 4 (fun w9 hs => (hs.front (.s (.s (.s (.s (.s (.z)))))))) rfl rfl rfl (by kernel_rfl) (by kernel_rfl) (by kernel_rfl) (fun _ _ _ h => h) rfl (q_move rfl) ?_
                    refine ah_take 5 (fun w9 hs => (hs.front (.s (.s (.s (.s (.s (.z)))))))) rfl rfl rfl (by kernel_rfl) (by kernel_rfl) (by kernel_rfl) (fun _ _ _ h => h) rfl (q_move rfl) ?_
                    refine ah_take 6 (fun w9 hs => (hs.front (.s (.s (.s (.s (.s (.z)))))))) rfl rfl rfl (by kernel_rfl) (by kernel_rfl) (by kernel_rfl) (fun _ _ _ h => h) rfl (q_indexAddrA (i := x2) (o_p + x2 * 1 + 0) hA_p rfl rfl rfl (by omega) Try.runUnderlying30 Try.sizeOf3 rfl) ?_
                    refine ah_take 7 (fun w9 hs => (hs.front (.s (.s (.s (.s (.s (.z)))))))) rfl rfl rfl (by kernel_rfl) (by kernel_rfl) (by kernel_rfl) (fun _ _ _ h => h) rfl (q_loadX rfl Try.isAgg3 (fun w9 hs => (hs.cellOf (.tail _ (.tail _ (.head _))) (F_p _ _ hA_p) hlt_p (hget_p x2 _ hx_p 0 _ rfl)))) ?_
                    refine ah_take 8 (fun w9 hs => (hs.front (.s (.s (.s (.s (.s (.z)))))))) rfl rfl rfl (by kernel_rfl) (by kernel_rfl) (by kernel_rfl) (fun _ _ _ h => h) rfl (q_sub rfl rfl (by omega)) ?_
                    refine ah_take 9 (fun w9 hs => (hs.front (.s (.s (.s (.s (.s (.z)))))))) rfl rfl rfl (by kernel_rfl) (by kernel_rfl) (by kernel_rfl) (fun _ _ _ h => h) rfl (q_move rfl) ?_
                    refine ah_take 10 (fun w9 hs => (hs.front (.s (.s (.s (.s (.s (.z)))))))) rfl rfl rfl (by kernel_rfl) (by kernel_rfl) (by kernel_rfl) (fun _ _ _ h => h) rfl (q_move rfl) ?_
                    refine ah_take 11 (fun w9 hs => (hs.front (.s (.s (.s (.s (.s (.z)))))))) rfl rfl rfl (by kernel_rfl) (by kernel_rfl) (by kernel_rfl) (fun _ _ _ h => h) rfl (q_indexAddrA (i := x2) (o_q + x2 * 1 + 0) hA_q rfl rfl rfl (by omega) Try.runUnderlying30 Try.sizeOf3 rfl) ?_
                    refine ah_take 12 (fun w9 hs => (hs.front (.s (.s (.s (.s (.s (.z)))))))) rfl rfl rfl (by kernel_rfl) (by kernel_rfl) (by kernel_rfl) (fun _ _ _ h => h) rfl (q_loadX rfl Try.isAgg3 (fun w9 hs => (hs.cellOf (.tail _ (.head _)) (F_q _ _ hA_q) hlt_q (hget_q x2 _ hx_q 0 _ rfl)))) ?_
                    refine ah_take 13 (fun w9 hs => (hs.front (.s (.s (.s (.s (.s (.z)))))))) rfl rfl rfl (by kernel_rfl) (by kernel_rfl) (by kernel_rfl) (fun _ _ _ h => h) rfl (q_sub rfl rfl (by omega)) ?_
                    refine ah_one 14 rfl (by kernel_rfl) (fun hok7 hcl7 => ?_)
                    refine al_call Try.call8 (.cons rfl .nil) rfl rfl (fun w6 hs6 => ?_)
                    refine (lsize_any _ _).mono ?_
                    rintro e u6 ⟨rfl, hb_6⟩
                    refine ⟨_, rfl, hb_6, ?_⟩
                    clear hs6
                    refine al_end (ah_back hok7 hcl7 (fun w9 hs => ((hs.fewer 1 rfl).front (.s (.s (.s (.s (.s (.z)))))))) ?_)
                    refine ah_take 15 (fun w9 hs => ((hs.fewer 1 rfl).front (.s (.s (.s (.s (.s (.z)))))))) rfl rfl rfl (by kernel_rfl) (by kernel_rfl) (by kernel_rfl) (fun _ _ _ h => h) rfl (q_gtr rfl rfl) ?_
                    refine ah_done (by kernel_rfl) ?_
                    refine aq_then ?_
                    refine ac_cond rfl (fun h5 => ?_) (fun h5 => ?_)
                    · exfalso; have g := of_decide_eq_true h5; rw [szI_of (by omega)] at g; omega
                    · skip
                      refine ac_skip ?_
                      refine aq_inN ?_
                      refine aq_then ?_
                      refine ac_region ?_
                      refine al_q (q_move rfl) rfl rfl rfl ?_
                      refine al_q (q_add rfl rfl (by omega)) rfl rfl rfl ?_
                      refine al_q (q_assign rfl) rfl rfl rfl ?_
                      refine al_end ?_
                      refine aq_then ?_
                      skip
                      refine aq_round (x2 + 1) (by omega) trivial ⟨rfl, rfl, rfl, rfl, rfl, rfl, rfl, rfl, trivial⟩ (fun w9 hs => (hs.fewer 1 rfl))
                  · skip
                    refine ac_exit ?_
                    refine aq_thenE ?_
                    refine aq_thenE ?_
                    refine aq_hit ?_
                    refine aq_then ?_
                    exact aq_sub (hX9 (()) (trivial)) ⟨rfl, rfl, rfl, trivial⟩ (fun w9 hs => (((hs.fewer 4 rfl).front (.s (.s (.s (.s (.s (.z)))))))))
                · skip
                  refine al_skip rfl rfl rfl ?_
                  refine al_skip rfl rfl rfl ?_
                  refine al_q (q_pickF rfl rfl) rfl rfl rfl ?_
                  refine al_end ?_
                  refine aq_then ?_
                  refine ac_condF rfl ?_
                  refine ac_exit ?_
                  refine aq_thenE ?_
                  refine aq_thenE ?_
                  refine aq_hit ?_
                  refine aq_then ?_
                  exact aq_sub (hX9 (()) (trivial)) ⟨rfl, rfl, rfl, trivial⟩ (fun w9 hs => (((hs.fewer 4 rfl).front (.s (.s (.s (.s (.s (.z)))))))))
            · skip
              refine ac_skip ?_
              refine aq_then ?_
              exact aq_sub (hX9 (()) (trivial)) ⟨rfl, rfl, rfl, trivial⟩ (fun w9 hs => ((hs.fewer 3 rfl)))
          · skip
            refine al_skip rfl rfl rfl ?_
            refine al_skip rfl rfl rfl ?_
            refine al_skip rfl rfl rfl ?_
            refine al_skip rfl rfl rfl ?_
            refine al_skip rfl rfl rfl ?_
            refine al_skip rfl rfl rfl ?_
            refine al_skip rfl rfl rfl ?_
            refine al_q (q_pickF rfl rfl) rfl rfl rfl ?_
            refine al_end ?_
            refine aq_then ?_
            refine ac_condF rfl ?_
            refine ac_skip ?_
            refine aq_then ?_
            exact aq_sub (hX9 (()) (trivial)) ⟨rfl, rfl, rfl, trivial⟩ (fun w9 hs => ((hs.fewer 3 rfl)))
        · skip
          refine al_skip rfl rfl rfl ?_
          refine al_skip rfl rfl rfl ?_
          refine al_q (q_pickF rfl rfl) rfl rfl rfl ?_
          refine al_q (q_move rfl) rfl rfl rfl ?_
          refine al_skip rfl rfl rfl ?_
          refine al_skip rfl rfl rfl ?_
          refine al_skip rfl rfl rfl ?_
          refine al_skip rfl rfl rfl ?_
          refine al_skip rfl rfl rfl ?_
          refine al_skip rfl rfl rfl ?_
          refine al_skip rfl rfl rfl ?_
          refine al_q (q_pickF rfl rfl) rfl rfl rfl ?_
          refine al_end ?_
          refine aq_then ?_
          refine ac_condF rfl ?_
          refine ac_skip ?_
          refine aq_then ?_
          exact aq_sub (hX9 (()) (trivial)) ⟨rfl, rfl, rfl, trivial⟩ (fun w9 hs => ((hs.fewer 3 rfl)))
      · refine ac_seq ?_
        refine ac_seq ?_
        refine ac_region ?_
        refine al_q (q_assign rfl) rfl rfl rfl ?_
        refine al_end ?_
        refine aq_then ?_
        refine ac_block ?_
        refine ac_loop (β := Nat) (fun x3 => x3 ≤ RS.Q.la ∧ ∀ j, j < x3 → j < RS.lt → bA S.trip j = false) (fun x3 => [(2, (.bool false)), (3, (.pointer (some ⟨b1001, 0, none⟩))), (4, (.pointer (some ⟨b5001, 0, none⟩))), (16, (.int .i64 (x3 : Int)))]) (fun _ => _) (fun x3 => [(b29001, _), (b17001, _), (b5001, _), (b1001, _), (b1, _)]) (fun x3 => RS.Q.la - x3) 0 ⟨by omega, fun j h => by omega⟩ ⟨rfl, rfl, rfl, rfl, trivial⟩ (fun w9 hs => hs) (fun x3 hF3 => ?_)
        refine ac_seq ?_
        refine ac_seq ?_
        refine ac_region ?_
        refine al_q (q_move rfl) rfl rfl rfl ?_
        refine al_q (q_fieldAddr 1 rfl Try.runUnderlying35 rfl Try.sizeOf32 (by decide) rfl) rfl rfl rfl ?_
        refine al_q (q_fieldAddr 1 rfl Try.runUnderlying32 rfl Try.sizeOf30 (by decide) rfl) rfl rfl rfl ?_
        refine al_q (q_load (i := 2) rfl rfl rfl Try.isAgg30) rfl rfl rfl ?_
        refine al_q (q_lenS rfl Try.runUnderlying30) rfl rfl rfl ?_
        refine al_q (q_lss rfl rfl) rfl rfl rfl ?_
        refine al_end ?_
        refine aq_then ?_
        refine ac_cond rfl (fun h6 => ?_) (fun h6 => ?_)
        · have hx3l : x3 < RS.Q.la := by have := of_decide_eq_true h6; omega
          refine ac_skip ?_
          refine aq_then ?_
          refine ac_seq ?_
          refine ac_block ?_
          refine ac_seq ?_
          refine ac_region ?_
          refine al_q (q_move rfl) rfl rfl rfl ?_
          refine al_q (q_fieldAddr 5 rfl Try.runUnderlying35 rfl Try.sizeOf33 (by decide) rfl) rfl rfl rfl ?_
          refine al_q (q_load (i := 2) rfl rfl rfl Try.isAgg33) rfl rfl rfl ?_
          refine al_q (q_lenS rfl Try.runUnderlying33) rfl rfl rfl ?_
          refine al_q (q_lss rfl rfl) rfl rfl rfl ?_
          refine al_q (q_move rfl) rfl rfl rfl ?_
          refine aq_split 143 rfl (fun hb4 => ?_) (fun hb4 => ?_)
          · have hxt : x3 < RS.lt := by have := of_decide_eq_true hb4; omega
            obtain ⟨b31, o31, hA3, hlt3, hget3⟩ := hS.trip.2 (by omega)
            have hx3 := bA_get (l := S.trip) (k := x3) (by have := hS.trip.1; omega)
            refine al_q (q_fieldAddr 5 rfl Try.runUnderlying35 rfl Try.sizeOf33 (by decide) rfl) rfl rfl rfl ?_
            refine al_q (q_load (i := 2) rfl rfl rfl Try.isAgg33) rfl rfl rfl ?_
            refine al_q (q_move rfl) rfl rfl rfl ?_
            refine al_q (q_indexAddrA (i := x3) (o31 + x3 * 1 + 0) hA3 rfl rfl rfl (by omega) Try.runUnderlying33 Try.sizeOf4 rfl) rfl rfl rfl ?_
            refine al_q (q_loadX rfl Try.isAgg4 (fun w9 hs => (hs.below.cell (p := ⟨_, _, none⟩) hlt3).trans ((hget3 x3 _ hx3) 0 _ rfl))) rfl rfl rfl ?_
            refine al_q (q_pickT rfl rfl) rfl rfl rfl ?_
            refine al_end ?_
            refine aq_then ?_
            refine aq_keepL [2, 3, 4, 16, 130, 131, 132, 133, 134, 135, 138, 139, 140, 141, 142, 143, 144, 145, 146, 147, 148, 149] (.cons rfl (.cons rfl (.cons rfl (.cons rfl (.cons rfl (.cons rfl (.cons rfl (.cons rfl (.cons rfl (.cons rfl (.cons rfl (.cons rfl (.cons rfl (.cons rfl (.cons rfl (.cons rfl (.cons rfl (.cons rfl (.cons rfl (.cons rfl (.cons rfl (.cons rfl .nil)))))))))))))))))))))) ?_
            refine ac_cond rfl (fun h7 => ?_) (fun h7 => ?_)
            · skip
              refine ac_seq ?_
              refine ac_region ?_
              refine al_call Try.call6 .nil rfl rfl (fun w7 hs7 => ?_)
              refine (awake3_any _).mono ?_
              rintro e u7 ⟨rfl, hb_7⟩
              refine ⟨_, rfl, hb_7, ?_⟩
              clear hs7
              refine al_q (q_assign rfl) rfl rfl rfl ?_
              refine al_end ?_
              refine aq_then ?_
              refine ac_ret ?_
              refine aq_inR ?_
              refine aq_thenR ?_
              refine aq_thenR ?_
              refine aq_inR ?_
              refine aq_thenR ?_
              refine ret1 Try.results3 rfl (fun w9 hs => ?_)
              exact ⟨rfl, hs.below⟩
            · have hbf : x3 < RS.lt → bA S.trip x3 = false := fun _ => h7
              refine ac_skip ?_
              refine aq_inN ?_
              refine aq_then ?_
              refine ac_region ?_
              refine al_q (q_move rfl) rfl rfl rfl ?_
              refine al_q (q_add rfl rfl (by omega)) rfl rfl rfl ?_
              refine al_q (q_assign rfl) rfl rfl rfl ?_
              refine al_end ?_
              refine aq_then ?_
              skip
              refine aq_round (x3 + 1) (by omega) ⟨by omega, fun j h1 h2 => (Nat.lt_or_ge j x3).elim (fun g => hF3.2 j g h2) (fun g => by (have e : j = x3 := by omega); rw [e]; exact hbf (by omega))⟩ ⟨rfl, rfl, rfl, rfl, trivial⟩ (fun w9 hs => hs)
          · have hbf : x3 < RS.lt → bA S.trip x3 = false := fun h => by have := of_decide_eq_false hb4; omega
            refine al_skip rfl rfl rfl ?_
            refine al_skip rfl rfl rfl ?_
            refine al_skip rfl rfl rfl ?_
            refine al_skip rfl rfl rfl ?_
            refine al_skip rfl rfl rfl ?_
            refine al_q (q_pickF rfl rfl) rfl rfl rfl ?_
            refine al_end ?_
            refine aq_then ?_
            refine ac_condF rfl ?_
            refine ac_skip ?_
            refine aq_inN ?_
            refine aq_then ?_
            refine ac_region ?_
            refine al_q (q_move rfl) rfl rfl rfl ?_
            refine al_q (q_add rfl rfl (by omega)) rfl rfl rfl ?_
            refine al_q (q_assign rfl) rfl rfl rfl ?_
            refine al_end ?_
            refine aq_then ?_
            skip
            refine aq_round (x3 + 1) (by omega) ⟨by omega, fun j h1 h2 => (Nat.lt_or_ge j x3).elim (fun g => hF3.2 j g h2) (fun g => by (have e : j = x3 := by omega); rw [e]; exact hbf (by omega))⟩ ⟨rfl, rfl, rfl, rfl, trivial⟩ (fun w9 hs => hs)
        · have hx3e : x3 = RS.Q.la := by have := of_decide_eq_false h6; omega
          have htr : ∀ j, j < RS.Q.la → j < RS.lt → bA S.trip j = false := fun j h1 h2 => hF3.2 j (by omega) h2
          refine ac_exit ?_
          refine aq_thenE ?_
          refine aq_thenE ?_
          refine aq_hit ?_
          refine aq_then ?_
          refine ac_cut (β := Unit) (fun y0 => ∀ j, j < RS.Q.la → j < R.la → szI (iA S.C.coils j) ≤ (cA M j).cur) (fun y0 => [(2, (.bool false)), (3, (.pointer (some ⟨b1001, 0, none⟩))), (4, (.pointer (some ⟨b5001, 0, none⟩)))]) (fun y0 => []) (fun y0 L9 => L9) (fun X9 hX9 => ?_) (fun y0 hF9 => ?_)
          · refine ac_seq ?_
            refine ac_region ?_
            refine al_q (q_assign rfl) rfl rfl rfl ?_
            refine al_end ?_
            refine aq_then ?_
            refine ac_block ?_
            refine ac_loop (β := Nat) (fun x4 => x4 ≤ RS.Q.la ∧ ∀ j, j < x4 → szI (iA S.C.coils j) ≤ (cA M j).cur) (fun x4 => [(2, (.bool false)), (3, (.pointer (some ⟨b1001, 0, none⟩))), (4, (.pointer (some ⟨b5001, 0, none⟩))), (17, (.int .i64 (x4 : Int)))]) (fun _ => _) (fun x4 => [(b29001, _), (b17001, _), (b5001, _), (b1001, _), (b1, _)]) (fun x4 => RS.Q.la - x4) 0 ⟨by omega, fun j h => by omega⟩ ⟨rfl, rfl, rfl, rfl, trivial⟩ (fun w9 hs => hs) (fun x4 hF4 => ?_)
            refine ac_seq ?_
            refine ac_seq ?_
            refine ac_region ?_
            refine al_q (q_move rfl) rfl rfl rfl ?_
            refine al_q (q_fieldAddr 1 rfl Try.runUnderlying35 rfl Try.sizeOf32 (by decide) rfl) rfl rfl rfl ?_
            refine al_q (q_fieldAddr 1 rfl Try.runUnderlying32 rfl Try.sizeOf30 (by decide) rfl) rfl rfl rfl ?_
            refine al_q (q_load (i := 2) rfl rfl rfl Try.isAgg30) rfl rfl rfl ?_
            refine al_q (q_lenS rfl Try.runUnderlying30) rfl rfl rfl ?_
            refine al_q (q_lss rfl rfl) rfl rfl rfl ?_
            refine al_q (q_move rfl) rfl rfl rfl ?_
            refine aq_split 157 rfl (fun hb5 => ?_) (fun hb5 => ?_)
            · have hxl4 : x4 < RS.Q.la := by have := of_decide_eq_true hb5; omega
              refine al_q (q_move rfl) rfl rfl rfl ?_
              refine al_q (q_fieldAddr 1 rfl Try.runUnderlying29 rfl Try.sizeOf22 (by decide) rfl) rfl rfl rfl ?_
              refine al_q (q_load (i := 3) rfl rfl rfl Try.isAgg22) rfl rfl rfl ?_
              refine al_q (q_lenS rfl Try.runUnderlying22) rfl rfl rfl ?_
              refine al_q (q_lss rfl rfl) rfl rfl rfl ?_
              refine al_q (q_pickT rfl rfl) rfl rfl rfl ?_
              refine al_end ?_
              refine aq_then ?_
              refine ac_cond rfl (fun h8 => ?_) (fun h8 => ?_)
              · have hxr4 : x4 < R.la := by have := of_decide_eq_true h8; omega
                obtain ⟨b41, o41, hA4, hlt4, hget4⟩ := hS.cur.coils.2 (by omega)
                have hx4 := iA_get (l := S.C.coils) (k := x4) (by have := hS.cur.coils.1; omega)
                obtain ⟨b61, o61, hA6, hlt6, hget6⟩ := hM.coils.2 (by omega)
                have hx6 := cA_get (M := M) (k := x4) (by have := hM.coils.1; omega)
                refine ac_skip ?_
                refine aq_then ?_
                refine ac_seq ?_
                refine ac_block ?_
                refine ac_seq ?_
                refine ac_draw 13 (by kernel_rfl) (by kernel_rfl) ?_
                refine ah_take 0 (fun w9 hs => hs) rfl rfl rfl (by kernel_rfl) (by kernel_rfl) (by kernel_rfl) (fun _ _ _ h => h) rfl (q_fieldAddr 1 rfl Try.runUnderlying35 rfl Try.sizeOf32 (by decide) rfl) ?_
                refine ah_take 1 (fun w9 hs => hs) rfl rfl rfl (by kernel_rfl) (by kernel_rfl) (by kernel_rfl) (fun _ _ _ h => h) rfl (q_fieldAddr 1 rfl Try.runUnderlying32 rfl Try.sizeOf30 (by decide) rfl) ?_
                refine ah_take 2 (fun w9 hs => hs) rfl rfl rfl (by kernel_rfl) (by kernel_rfl) (by kernel_rfl) (fun _ _ _ h => h) rfl (q_load (i := 2) rfl rfl rfl Try.isAgg30) ?_
                refine ah_take 3 (fun w9 hs => hs) rfl rfl rfl (by kernel_rfl) (by kernel_rfl) (by kernel_rfl) (fun _ _ _ h => h) rfl (q_move rfl) ?_
                refine ah_take 4 (fun w9 hs => hs) rfl rfl rfl (by kernel_rfl) (by kernel_rfl) (by kernel_rfl) (fun _ _ _ h => h) rfl (q_indexAddrA (i := x4) (o41 + x4 * 1 + 0) hA4 rfl rfl rfl (by omega) Try.runUnderlying30 Try.sizeOf3 rfl) ?_
                refine ah_take 5 (fun w9 hs => hs) rfl rfl rfl (by kernel_rfl) (by kernel_rfl) (by kernel_rfl) (fun _ _ _ h => h) rfl (q_loadX rfl Try.isAgg3 (fun w9 hs => (hs.below.cell (p := ⟨_, _, none⟩) hlt4).trans ((hget4 x4 _ hx4) 0 _ rfl))) ?_
                refine ah_take 7 (fun w9 hs => hs) rfl rfl rfl (by kernel_rfl) (by kernel_rfl) (by kernel_rfl) (fun _ _ _ h => h) rfl (q_fieldAddr 1 rfl Try.runUnderlying29 rfl Try.sizeOf22 (by decide) rfl) ?_
                refine ah_take 8 (fun w9 hs => hs) rfl rfl rfl (by kernel_rfl) (by kernel_rfl) (by kernel_rfl) (fun _ _ _ h => h) rfl (q_load (i := 3) rfl rfl rfl Try.isAgg22) ?_
                refine ah_take 9 (fun w9 hs => hs) rfl rfl rfl (by kernel_rfl) (by kernel_rfl) (by kernel_rfl) (fun _ _ _ h => h) rfl (q_move rfl) ?_
                refine ah_take 10 (fun w9 hs => hs) rfl rfl rfl (by kernel_rfl) (by kernel_rfl) (by kernel_rfl) (fun _ _ _ h => h) rfl (q_indexAddrA (i := x4) (o61 + x4 * 8 + 0) hA6 rfl rfl rfl (by omega) Try.runUnderlying22 Try.sizeOf47 rfl) ?_
                refine ah_take 11 (fun w9 hs => hs) rfl rfl rfl (by kernel_rfl) (by kernel_rfl) (by kernel_rfl) (fun _ _ _ h => h) rfl (q_fieldAddr (o61 + x4 * 8 + 4) rfl Try.runUnderlying47 rfl Try.sizeOf3 (by decide) rfl) ?_
                refine ah_take 12 (fun w9 hs => hs) rfl rfl rfl (by kernel_rfl) (by kernel_rfl) (by kernel_rfl) (fun _ _ _ h => h) rfl (q_loadX rfl Try.isAgg3 (fun w9 hs => (hs.below.cell (p := ⟨_, _, none⟩) hlt6).trans ((hget6 x4 _ hx6) 4 _ rfl))) ?_
                refine ah_one 6 rfl (by kernel_rfl) (fun hok8 hcl8 => ?_)
                refine al_call Try.call8 (.cons rfl .nil) rfl rfl (fun w8 hs8 => ?_)
                refine (lsize_any _ _).mono ?_
                rintro e u8 ⟨rfl, hb_8⟩
                refine ⟨_, rfl, hb_8, ?_⟩
                clear hs8
                refine al_end (ah_back hok8 hcl8 (fun w9 hs => (hs.fewer 1 rfl)) ?_)
                refine ah_take 13 (fun w9 hs => (hs.fewer 1 rfl)) rfl rfl rfl (by kernel_rfl) (by kernel_rfl) (by kernel_rfl) (fun _ _ _ h => h) rfl (q_gtr rfl rfl) ?_
                refine ah_done (by kernel_rfl) ?_
                refine aq_then ?_
                refine ac_cond rfl (fun h9 => ?_) (fun h9 => ?_)
                · skip
                  refine ac_seq ?_
                  refine ac_region ?_
                  refine al_call Try.call6 .nil rfl rfl (fun w9 hs9 => ?_)
                  refine (awake3_any _).mono ?_
                  rintro e u9 ⟨rfl, hb_9⟩
                  refine ⟨_, rfl, hb_9, ?_⟩
                  clear hs9
                  refine al_q (q_assign rfl) rfl rfl rfl ?_
                  refine al_end ?_
                  refine aq_then ?_
                  refine ac_ret ?_
                  refine aq_inR ?_
                  refine aq_thenR ?_
                  refine aq_thenR ?_
                  refine aq_inR ?_
                  refine aq_thenR ?_
                  refine ret1 Try.results3 rfl (fun w9 hs => ?_)
                  exact ⟨rfl, hs.below⟩
                · have hcq : szI (iA S.C.coils x4) ≤ (cA M x4).cur := by have := of_decide_eq_false h9; omega
                  refine ac_skip ?_
                  refine aq_inN ?_
                  refine aq_then ?_
                  refine ac_region ?_
                  refine al_q (q_move rfl) rfl rfl rfl ?_
                  refine al_q (q_add rfl rfl (by omega)) rfl rfl rfl ?_
                  refine al_q (q_assign rfl) rfl rfl rfl ?_
                  refine al_end ?_
                  refine aq_then ?_
                  skip
                  refine aq_round (x4 + 1) (by omega) ⟨by omega, fun j h1 => (Nat.lt_or_ge j x4).elim (fun g => hF4.2 j g) (fun g => by (have e : j = x4 := by omega); rw [e]; exact hcq)⟩ ⟨rfl, rfl, rfl, rfl, trivial⟩ (fun w9 hs => (hs.fewer 1 rfl))
              · have hxg : R.la ≤ x4 := by have := of_decide_eq_false h8; omega
                refine ac_exit ?_
                refine aq_thenE ?_
                refine aq_thenE ?_
                refine aq_hit ?_
                refine aq_then ?_
                exact aq_sub (hX9 (()) (fun j h1 h2 => hF4.2 j (by omega))) ⟨rfl, rfl, rfl, trivial⟩ (fun w9 hs => (hs))
            · have hxg : RS.Q.la ≤ x4 := by have := of_decide_eq_false hb5; omega
              refine al_skip rfl rfl rfl ?_
              refine al_skip rfl rfl rfl ?_
              refine al_skip rfl rfl rfl ?_
              refine al_skip rfl rfl rfl ?_
              refine al_skip rfl rfl rfl ?_
              refine al_q (q_pickF rfl rfl) rfl rfl rfl ?_
              refine al_end ?_
              refine aq_then ?_
              refine ac_condF rfl ?_
              refine ac_exit ?_
              refine aq_thenE ?_
              refine aq_thenE ?_
              refine aq_hit ?_
              refine aq_then ?_
              exact aq_sub (hX9 (()) (fun j h1 h2 => hF4.2 j (by omega))) ⟨rfl, rfl, rfl, trivial⟩ (fun w9 hs => (hs))
          · have hq0 := hF9
            refine ac_seq ?_
            refine ac_region ?_
            refine al_q (q_loadAll (i := 3) rfl rfl Try.isAgg29 Try.sizeOf29 rfl) rfl rfl rfl ?_
            refine al_q (q_loadAll (i := 2) rfl rfl Try.isAgg35 Try.sizeOf35 rfl) rfl rfl rfl ?_
            refine al_call Try.call9 (.cons rfl (.cons rfl (.cons rfl .nil))) rfl rfl (fun w10 hs10 => ?_)
            refine (ccoast_any R M RS S 1 _ (hM.below hs10.below) (hS.below hs10.below)).mono ?_
            rintro e u10 ⟨x, nx, rfl, k1_, k2_, hb_10⟩
            obtain ⟨rfl, X_x, N_x⟩ := outS_data k1_ k2_
            refine ⟨_, rfl, hb_10, ?_⟩
            clear hs10
            refine al_q (q_move rfl) rfl rfl rfl ?_
            refine al_q (q_extract rfl rfl) rfl rfl rfl ?_
            refine al_q (q_extract rfl rfl) rfl rfl rfl ?_
            refine al_new (fun b => .pointer (some ⟨b, 0, none⟩)) (r_alloc Try.zeroValue35 rfl) rfl rfl rfl ?_
            intro b3
            refine al_storeAll (i := 0) rfl rfl rfl rfl Try.sizeOf35 rfl rfl .k0 rfl ?_
            refine al_q (q_assign rfl) rfl rfl rfl ?_
            refine al_end ?_
            refine aq_then ?_
            refine ac_seq ?_
            refine ac_seq ?_
            refine ac_region ?_
            refine al_q (q_move rfl) rfl rfl rfl ?_
            refine al_q (q_neq rfl rfl) rfl rfl rfl ?_
            refine al_end ?_
            refine aq_then ?_
            refine ac_cond rfl (fun h10 => ?_) (fun h10 => ?_)
            · skip
              refine ac_seq ?_
              refine ac_region ?_
              refine al_call Try.call6 .nil rfl rfl (fun w11 hs11 => ?_)
              refine (awake3_any _).mono ?_
              rintro e u11 ⟨rfl, hb_11⟩
              refine ⟨_, rfl, hb_11, ?_⟩
              clear hs11
              refine al_q (q_assign rfl) rfl rfl rfl ?_
              refine al_end ?_
              refine aq_then ?_
              refine ac_ret ?_
              refine aq_thenR ?_
              refine ret1 Try.results3 rfl (fun w9 hs => ?_)
              exact ⟨rfl, hs.below⟩
            · have hE : coastE M S 1 = 0 := by simpa using h10
              obtain ⟨hf, -, -⟩ := coastE_ok hE
              have hc0 := hf.cur.check
              have n1 := hM.coils.1
              have n2 := hM.shells.1
              have n3 := hS.cur.coils.1
              have n4 := hS.cur.shells.1
              have n5 := hf.cur.coils.1
              have n6 := hf.cur.shells.1
              have n7 := hf.trip
              have n8 := hS.trip.1
              have hD : (endD (coastE M S 1) (coastD M S (1 : Int).toNat)) = coastD M S 1 := if_pos hE
              have X2 := X_x.cur.shells
              rw [hD] at X2
              have n9 : x.Q.lb = M.shells.length := by have := X2.1; have h8 : (coastD M S 1).C.shells.length = M.shells.length := lst_length _ _; omega
              have hvn := fun k (hk : k < M.shells.length) => vessel_now (k := k) hf (fun j hj => htr j (by omega) (by omega)) (fun j hj => hq0 j (by omega) (by omega)) hk
              refine ac_skip ?_
              refine aq_then ?_
              refine ac_seq ?_
              refine ac_seq ?_
              refine ac_region ?_
              refine al_q (q_assign rfl) rfl rfl rfl ?_
              refine al_end ?_
              refine aq_then ?_
              refine ac_block ?_
              refine ac_loop (β := Nat) (fun x5 => True) (fun x5 => [(2, (.bool false)), (4, (.pointer (some ⟨b5001, 0, none⟩))), (18, (.pointer (some ⟨b3, 0, none⟩))), (20, (.int .i64 (x5 : Int)))]) (fun _ => _) (fun x5 => [(b3, _), (b29001, _), (b17001, _), (b5001, _), (b1001, _), (b1, _)]) (fun x5 => x.Q.lb - x5) 0 trivial ⟨rfl, rfl, rfl, rfl, trivial⟩ (fun w9 hs => hs) (fun x5 hF5 => ?_)
              refine ac_seq ?_
              refine ac_seq ?_
              refine ac_region ?_
              refine al_q (q_move rfl) rfl rfl rfl ?_
              refine al_q (q_fieldAddr 1 rfl Try.runUnderlying35 rfl Try.sizeOf32 (by decide) rfl) rfl rfl rfl ?_
              refine al_q (q_fieldAddr 2 rfl Try.runUnderlying32 rfl Try.sizeOf30 (by decide) rfl) rfl rfl rfl ?_
              refine al_q (q_load (i := 0) rfl rfl rfl Try.isAgg30) rfl rfl rfl ?_
              refine al_q (q_lenS rfl Try.runUnderlying30) rfl rfl rfl ?_
              refine al_q (q_lss rfl rfl) rfl rfl rfl ?_
              refine al_end ?_
              refine aq_then ?_
              refine ac_cond rfl (fun h11 => ?_) (fun h11 => ?_)
              · have hx5l : x5 < M.shells.length := by have := of_decide_eq_true h11; omega
                obtain ⟨b51, o51, hA5, hlt5, hget5⟩ := hS.cur.shells.2 (by omega)
                have hx5 := iA_get (l := S.C.shells) (k := x5) (by omega)
                obtain ⟨b_x, o_x, hA_x, hlt_x, hget_x⟩ := X2.2 (by omega)
                have hx_x : (coastD M S 1).C.shells[x5]? = some (iA (coastD M S 1).C.shells x5) := iA_get (by have h8 : (coastD M S 1).C.shells.length = M.shells.length := lst_length _ _; omega)
                obtain ⟨v1, v2, v3⟩ := hvn x5 hx5l
                have q1 := hf.cur.shells.2 _ (List.mem_of_getElem? hx5)
                have sz1 := szI_of (n := (iA S.C.shells x5)) (by omega)
                have sz2 := szI_of (n := (iA (coastD M S 1).C.shells x5)) (by rcases Int.lt_trichotomy (iA S.C.shells x5) 0 with g | g | g <;> first | (have := v3 g; omega) | (have := v2 g; omega) | (have := v1 g; omega))
                refine ac_skip ?_
                refine aq_then ?_
                refine ac_seq ?_
                refine ac_block ?_
                refine ac_seq ?_
                refine ac_draw 13 (by kernel_rfl) (by kernel_rfl) ?_
                refine ah_take 0 (fun w9 hs => hs) rfl rfl rfl (by kernel_rfl) (by kernel_rfl) (by kernel_rfl) (fun _ _ _ h => h) rfl (q_fieldAddr 1 rfl Try.runUnderlying35 rfl Try.sizeOf32 (by decide) rfl) ?_
                refine ah_take 1 (fun w9 hs => hs) rfl rfl rfl (by kernel_rfl) (by kernel_rfl) (by kernel_rfl) (fun _ _ _ h => h) rfl (q_fieldAddr 2 rfl Try.runUnderlying32 rfl Try.sizeOf30 (by decide) rfl) ?_
                refine ah_take 2 (fun w9 hs => hs) rfl rfl rfl (by kernel_rfl) (by kernel_rfl) (by kernel_rfl) (fun _ _ _ h => h) rfl (q_load (i := 3) rfl rfl rfl Try.isAgg30) ?_
                refine ah_take 3 (fun w9 hs => hs) rfl rfl rfl (by kernel_rfl) (by kernel_rfl) (by kernel_rfl) (fun _ _ _ h => h) rfl (q_move rfl) ?_
                refine ah_take 4 (fun w9 hs => hs) rfl rfl rfl (by kernel_rfl) (by kernel_rfl) (by kernel_rfl) (fun _ _ _ h => h) rfl (q_indexAddrA (i := x5) (o51 + x5 * 1 + 0) hA5 rfl rfl rfl (by omega) Try.runUnderlying30 Try.sizeOf3 rfl) ?_
                refine ah_take 5 (fun w9 hs => hs) rfl rfl rfl (by kernel_rfl) (by kernel_rfl) (by kernel_rfl) (fun _ _ _ h => h) rfl (q_loadX rfl Try.isAgg3 (fun w9 hs => (hs.below.cell (p := ⟨_, _, none⟩) hlt5).trans ((hget5 x5 _ hx5) 0 _ rfl))) ?_
                refine ah_take 6 (fun w9 hs => hs) rfl rfl rfl (by kernel_rfl) (by kernel_rfl) (by kernel_rfl) (fun _ _ _ h => h) rfl (q_fieldAddr 1 rfl Try.runUnderlying35 rfl Try.sizeOf32 (by decide) rfl) ?_
                refine ah_take 7 (fun w9 hs => hs) rfl rfl rfl (by kernel_rfl) (by kernel_rfl) (by kernel_rfl) (fun _ _ _ h => h) rfl (q_fieldAddr 2 rfl Try.runUnderlying32 rfl Try.sizeOf30 (by decide) rfl) ?_
                refine ah_take 8 (fun w9 hs => hs) rfl rfl rfl (by kernel_rfl) (by kernel_rfl) (by kernel_rfl) (fun _ _ _ h => h) rfl (q_load (i := 0) rfl rfl rfl Try.isAgg30) ?_
                refine ah_take 9 (fun w9 hs => hs) rfl rfl rfl (by kernel_rfl) (by kernel_rfl) (by kernel_rfl) (fun _ _ _ h => h) rfl (q_move rfl) ?_
                refine ah_take 10 (fun w9 hs => hs) rfl rfl rfl (by kernel_rfl) (by kernel_rfl) (by kernel_rfl) (fun _ _ _ h => h) rfl (q_indexAddrA (i := x5) (o_x + x5 * 1 + 0) hA_x rfl rfl rfl (by omega) Try.runUnderlying30 Try.sizeOf3 rfl) ?_
                refine ah_take 11 (fun w9 hs => hs) rfl rfl rfl (by kernel_rfl) (by kernel_rfl) (by kernel_rfl) (fun _ _ _ h => h) rfl (q_loadX rfl Try.isAgg3 (fun w9 hs => (hs.cellOf (.head _) (N_x.b _ _ hA_x) hlt_x (hget_x x5 _ hx_x 0 _ rfl)))) ?_
                refine ah_take 12 (fun w9 hs => hs) rfl rfl rfl (by kernel_rfl) (by kernel_rfl) (by kernel_rfl) (fun _ _ _ h => h) rfl (q_assign rfl) ?_
                refine ah_take 13 (fun w9 hs => hs) rfl rfl rfl (by kernel_rfl) (by kernel_rfl) (by kernel_rfl) (fun _ _ _ h => h) rfl (q_assign rfl) ?_
                refine ah_done (by kernel_rfl) ?_
                refine aq_then ?_
                refine aq_keepL [2, 4, 18, 20, 21, 22, 190, 191, 192, 193, 194, 195, 198, 199, 200, 201, 202, 203, 204, 205, 206, 207, 208, 209] (.cons rfl (.cons rfl (.cons rfl (.cons rfl (.cons rfl (.cons rfl (.cons rfl (.cons rfl (.cons rfl (.cons rfl (.cons rfl (.cons rfl (.cons rfl (.cons rfl (.cons rfl (.cons rfl (.cons rfl (.cons rfl (.cons rfl (.cons rfl (.cons rfl (.cons rfl (.cons rfl (.cons rfl .nil)))))))))))))))))))))))) ?_
                refine ac_seq ?_
                refine ac_region ?_
                refine al_q (q_move rfl) rfl rfl rfl ?_
                refine al_call Try.call8 (.cons rfl .nil) rfl rfl (fun w12 hs12 => ?_)
                refine (lsize_any _ _).mono ?_
                rintro e u12 ⟨rfl, hb_12⟩
                refine ⟨_, rfl, hb_12, ?_⟩
                clear hs12
                refine al_q (q_move rfl) rfl rfl rfl ?_
                refine al_call Try.call8 (.cons rfl .nil) rfl rfl (fun w13 hs13 => ?_)
                refine (lsize_any _ _).mono ?_
                rintro e u13 ⟨rfl, hb_13⟩
                refine ⟨_, rfl, hb_13, ?_⟩
                clear hs13
                refine al_q (q_same (v' := .bool false) (q_gtr rfl rfl) (by rw [sz1, sz2]; congr 1; refine decide_eq_false ?_; rcases Int.lt_trichotomy (iA S.C.shells x5) 0 with g | g | g <;> first | (have := v3 g; omega) | (have := v2 g; omega) | (have := v1 g; omega))) rfl rfl rfl ?_
                refine al_q (q_move rfl) rfl rfl rfl ?_
                refine al_q (q_move rfl) rfl rfl rfl ?_
                refine al_q (q_gtr rfl rfl) rfl rfl rfl ?_
                refine al_q (q_move rfl) rfl rfl rfl ?_
                refine aq_split 218 rfl (fun hb6 => ?_) (fun hb6 => ?_)
                · have g1 := of_decide_eq_true hb6
                  refine al_q (q_move rfl) rfl rfl rfl ?_
                  refine al_q (q_same (v' := .bool false) (q_lss rfl rfl) (by congr 1; refine decide_eq_false ?_; have := v1 g1; omega)) rfl rfl rfl ?_
                  refine al_q (q_pickT rfl rfl) rfl rfl rfl ?_
                  refine al_q (q_pickF rfl rfl) rfl rfl rfl ?_
                  refine al_q (q_move rfl) rfl rfl rfl ?_
                  refine al_q (q_move rfl) rfl rfl rfl ?_
                  refine al_q (q_lss rfl rfl) rfl rfl rfl ?_
                  refine al_q (q_move rfl) rfl rfl rfl ?_
                  refine aq_split 226 rfl (fun hb7 => ?_) (fun hb7 => ?_)
                  · have g2 := of_decide_eq_true hb7
                    refine al_q (q_move rfl) rfl rfl rfl ?_
                    refine al_q (q_same (v' := .bool false) (q_gtr rfl rfl) (by congr 1; refine decide_eq_false ?_; have := v3 g2; omega)) rfl rfl rfl ?_
                    refine al_q (q_pickT rfl rfl) rfl rfl rfl ?_
                    refine al_q (q_pickF rfl rfl) rfl rfl rfl ?_
                    refine al_q (q_move rfl) rfl rfl rfl ?_
                    refine al_q (q_move rfl) rfl rfl rfl ?_
                    refine al_q (q_neq rfl rfl) rfl rfl rfl ?_
                    refine al_q (q_move rfl) rfl rfl rfl ?_
                    refine aq_split 234 rfl (fun hb8 => ?_) (fun hb8 => ?_)
                    · have g3 : (iA S.C.shells x5) ≠ 0 := by simpa using hb8
                      refine al_q (q_move rfl) rfl rfl rfl ?_
                      refine al_q (q_move rfl) rfl rfl rfl ?_
                      refine al_q (q_same (v' := .bool false) (q_eql rfl rfl) (by congr 1; refine decide_eq_false ?_; rcases Int.lt_trichotomy (iA S.C.shells x5) 0 with g | g | g <;> first | (have := v3 g; omega) | (have := v2 g; omega) | (have := v1 g; omega))) rfl rfl rfl ?_
                      refine al_q (q_pickT rfl rfl) rfl rfl rfl ?_
                      refine al_q (q_pickF rfl rfl) rfl rfl rfl ?_
                      refine al_end ?_
                      refine aq_then ?_
                      refine ac_condF rfl ?_
                      refine ac_skip ?_
                      refine aq_inN ?_
                      refine aq_then ?_
                      refine ac_region ?_
                      refine al_q (q_move rfl) rfl rfl rfl ?_
                      refine al_q (q_add rfl rfl (by omega)) rfl rfl rfl ?_
                      refine al_q (q_assign rfl) rfl rfl rfl ?_
                      refine al_end ?_
                      refine aq_then ?_
                      skip
                      refine aq_round (x5 + 1) (by omega) trivial ⟨rfl, rfl, rfl, rfl, trivial⟩ (fun w9 hs => (hs.fewer 2 rfl))
                    · have g3 : (iA S.C.shells x5) = 0 := by simpa using hb8
                      refine al_skip rfl rfl rfl ?_
                      refine al_skip rfl rfl rfl ?_
                      refine al_skip rfl rfl rfl ?_
                      refine al_q (q_pickF rfl rfl) rfl rfl rfl ?_
                      refine al_q (q_pickF rfl rfl) rfl rfl rfl ?_
                      refine al_end ?_
                      refine aq_then ?_
                      refine ac_condF rfl ?_
                      refine ac_skip ?_
                      refine aq_inN ?_
                      refine aq_then ?_
                      refine ac_region ?_
                      refine al_q (q_move rfl) rfl rfl rfl ?_
                      refine al_q (q_add rfl rfl (by omega)) rfl rfl rfl ?_
                      refine al_q (q_assign rfl) rfl rfl rfl ?_
                      refine al_end ?_
                      refine aq_then ?_
                      skip
                      refine aq_round (x5 + 1) (by omega) trivial ⟨rfl, rfl, rfl, rfl, trivial⟩ (fun w9 hs => (hs.fewer 2 rfl))
                  · have g2 := of_decide_eq_false hb7
                    refine al_skip rfl rfl rfl ?_
                    refine al_skip rfl rfl rfl ?_
                    refine al_q (q_pickF rfl rfl) rfl rfl rfl ?_
                    refine al_q (q_pickF rfl rfl) rfl rfl rfl ?_
                    refine al_q (q_move rfl) rfl rfl rfl ?_
                    refine al_q (q_move rfl) rfl rfl rfl ?_
                    refine al_q (q_neq rfl rfl) rfl rfl rfl ?_
                    refine al_q (q_move rfl) rfl rfl rfl ?_
                    refine aq_split 234 rfl (fun hb9 => ?_) (fun hb9 => ?_)
                    · have g3 : (iA S.C.shells x5) ≠ 0 := by simpa using hb9
                      refine al_q (q_move rfl) rfl rfl rfl ?_
                      refine al_q (q_move rfl) rfl rfl rfl ?_
                      refine al_q (q_same (v' := .bool false) (q_eql rfl rfl) (by congr 1; refine decide_eq_false ?_; rcases Int.lt_trichotomy (iA S.C.shells x5) 0 with g | g | g <;> first | (have := v3 g; omega) | (have := v2 g; omega) | (have := v1 g; omega))) rfl rfl rfl ?_
                      refine al_q (q_pickT rfl rfl) rfl rfl rfl ?_
                      refine al_q (q_pickF rfl rfl) rfl rfl rfl ?_
                      refine al_end ?_
                      refine aq_then ?_
                      refine ac_condF rfl ?_
                      refine ac_skip ?_
                      refine aq_inN ?_
                      refine aq_then ?_
                      refine ac_region ?_
                      refine al_q (q_move rfl) rfl rfl rfl ?_
                      refine al_q (q_add rfl rfl (by omega)) rfl rfl rfl ?_
                      refine al_q (q_assign rfl) rfl rfl rfl ?_
                      refine al_end ?_
                      refine aq_then ?_
                      skip
                      refine aq_round (x5 + 1) (by omega) trivial ⟨rfl, rfl, rfl, rfl, trivial⟩ (fun w9 hs => (hs.fewer 2 rfl))
                    · have g3 : (iA S.C.shells x5) = 0 := by simpa using hb9
                      refine al_skip rfl rfl rfl ?_
                      refine al_skip rfl rfl rfl ?_
                      refine al_skip rfl rfl rfl ?_
                      refine al_q (q_pickF rfl rfl) rfl rfl rfl ?_
                      refine al_q (q_pickF rfl rfl) rfl rfl rfl ?_
                      refine al_end ?_
                      refine aq_then ?_
                      refine ac_condF rfl ?_
                      refine ac_skip ?_
                      refine aq_inN ?_
                      refine aq_then ?_
                      refine ac_region ?_
                      refine al_q (q_move rfl) rfl rfl rfl ?_
                      refine al_q (q_add rfl rfl (by omega)) rfl rfl rfl ?_
                      refine al_q (q_assign rfl) rfl rfl rfl ?_
                      refine al_end ?_
                      refine aq_then ?_
                      skip
                      refine aq_round (x5 + 1) (by omega) trivial ⟨rfl, rfl, rfl, rfl, trivial⟩ (fun w9 hs => (hs.fewer 2 rfl))
                · have g1 := of_decide_eq_false hb6
                  refine al_skip rfl rfl rfl ?_
                  refine al_skip rfl rfl rfl ?_
                  refine al_q (q_pickF rfl rfl) rfl rfl rfl ?_
                  refine al_q (q_pickF rfl rfl) rfl rfl rfl ?_
                  refine al_q (q_move rfl) rfl rfl rfl ?_
                  refine al_q (q_move rfl) rfl rfl rfl ?_
                  refine al_q (q_lss rfl rfl) rfl rfl rfl ?_
                  refine al_q (q_move rfl) rfl rfl rfl ?_
                  refine aq_split 226 rfl (fun hb10 => ?_) (fun hb10 => ?_)
                  · have g2 := of_decide_eq_true hb10
                    refine al_q (q_move rfl) rfl rfl rfl ?_
                    refine al_q (q_same (v' := .bool false) (q_gtr rfl rfl) (by congr 1; refine decide_eq_false ?_; have := v3 g2; omega)) rfl rfl rfl ?_
                    refine al_q (q_pickT rfl rfl) rfl rfl rfl ?_
                    refine al_q (q_pickF rfl rfl) rfl rfl rfl ?_
                    refine al_q (q_move rfl) rfl rfl rfl ?_
                    refine al_q (q_move rfl) rfl rfl rfl ?_
                    refine al_q (q_neq rfl rfl) rfl rfl rfl ?_
                    refine al_q (q_move rfl) rfl rfl rfl ?_
                    refine aq_split 234 rfl (fun hb11 => ?_) (fun hb11 => ?_)
                    · have g3 : (iA S.C.shells x5) ≠ 0 := by simpa using hb11
                      refine al_q (q_move rfl) rfl rfl rfl ?_
                      refine al_q (q_move rfl) rfl rfl rfl ?_
                      refine al_q (q_same (v' := .bool false) (q_eql rfl rfl) (by congr 1; refine decide_eq_false ?_; rcases Int.lt_trichotomy (iA S.C.shells x5) 0 with g | g | g <;> first | (have := v3 g; omega) | (have := v2 g; omega) | (have := v1 g; omega))) rfl rfl rfl ?_
                      refine al_q (q_pickT rfl rfl) rfl rfl rfl ?_
                      refine al_q (q_pickF rfl rfl) rfl rfl rfl ?_
                      refine al_end ?_
                      refine aq_then ?_
                      refine aq_keepL [2, 4, 18, 20, 21, 22, 190, 191, 192, 193, 194, 195, 198, 199, 200, 201, 202, 203, 204, 205, 206, 207, 208, 209, 210, 211, 212, 213, 214, 215, 216, 217, 218, 219, 220, 221, 222, 223, 224, 225, 226, 227, 228, 229, 230, 231, 232, 233, 234, 235, 236, 237, 238, 239] (.cons rfl (.cons rfl (.cons rfl (.cons rfl (.cons rfl (.cons rfl (.cons rfl (.cons rfl (.cons rfl (.cons rfl (.cons rfl (.cons rfl (.cons rfl (.cons rfl (.cons rfl (.cons rfl (.cons rfl (.cons rfl (.cons rfl (.cons rfl (.cons rfl (.cons rfl (.cons rfl (.cons rfl (.cons rfl (.cons rfl (.cons rfl (.cons rfl (.cons rfl (.cons rfl (.cons rfl (.cons rfl (.cons rfl (.cons rfl (.cons rfl (.cons rfl (.cons rfl (.cons rfl (.cons rfl (.cons rfl (.cons rfl (.cons rfl (.cons rfl (.cons rfl (.cons rfl (.cons rfl (.cons rfl (.cons rfl (.cons rfl (.cons rfl (.cons rfl (.cons rfl (.cons rfl (.cons rfl .nil)))))))))))))))))))))))))))))))))))))))))))))))))))))) ?_
                      refine ac_condF rfl ?_
                      refine ac_skip ?_
                      refine aq_inN ?_
                      refine aq_then ?_
                      refine ac_region ?_
                      refine al_q (q_move rfl) rfl rfl rfl ?_
                      refine al_q (q_add rfl rfl (by omega)) rfl rfl rfl ?_
                      refine al_q (q_assign rfl) rfl rfl rfl ?_
                      refine al_end ?_
                      refine aq_then ?_
                      skip
                      refine aq_round (x5 + 1) (by omega) trivial ⟨rfl, rfl, rfl, rfl, trivial⟩ (fun w9 hs => (hs.fewer 2 rfl))
                    · have g3 : (iA S.C.shells x5) = 0 := by simpa using hb11
                      refine al_skip rfl rfl rfl ?_
                      refine al_skip rfl rfl rfl ?_
                      refine al_skip rfl rfl rfl ?_
                      refine al_q (q_pickF rfl rfl) rfl rfl rfl ?_
                      refine al_q (q_pickF rfl rfl) rfl rfl rfl ?_
                      refine al_end ?_
                      refine aq_then ?_
                      refine ac_condF rfl ?_
                      refine ac_skip ?_
                      refine aq_inN ?_
                      refine aq_then ?_
                      refine ac_region ?_
                      refine al_q (q_move rfl) rfl rfl rfl ?_
                      refine al_q (q_add rfl rfl (by omega)) rfl rfl rfl ?_
                      refine al_q (q_assign rfl) rfl rfl rfl ?_
                      refine al_end ?_
                      refine aq_then ?_
                      skip
                      refine aq_round (x5 + 1) (by omega) trivial ⟨rfl, rfl, rfl, rfl, trivial⟩ (fun w9 hs => (hs.fewer 2 rfl))
                  · have g2 := of_decide_eq_false hb10
                    refine al_skip rfl rfl rfl ?_
                    refine al_skip rfl rfl rfl ?_
                    refine al_q (q_pickF rfl rfl) rfl rfl rfl ?_
                    refine al_q (q_pickF rfl rfl) rfl rfl rfl ?_
                    refine al_q (q_move rfl) rfl rfl rfl ?_
                    refine al_q (q_move rfl) rfl rfl rfl ?_
                    refine al_q (q_neq rfl rfl) rfl rfl rfl ?_
                    refine al_q (q_move rfl) rfl rfl rfl ?_
                    refine aq_split 234 rfl (fun hb12 => ?_) (fun hb12 => ?_)
                    · have g3 : (iA S.C.shells x5) ≠ 0 := by simpa using hb12
                      refine al_q (q_move rfl) rfl rfl rfl ?_
                      refine al_q (q_move rfl) rfl rfl rfl ?_
                      refine al_q (q_same (v' := .bool false) (q_eql rfl rfl) (by congr 1; refine decide_eq_false ?_; rcases Int.lt_trichotomy (iA S.C.shells x5) 0 with g | g | g <;> first | (have := v3 g; omega) | (have := v2 g; omega) | (have := v1 g; omega))) rfl rfl rfl ?_
                      refine al_q (q_pickT rfl rfl) rfl rfl rfl ?_
                      refine al_q (q_pickF rfl rfl) rfl rfl rfl ?_
                      refine al_end ?_
                      refine aq_then ?_
                      refine ac_condF rfl ?_
                      refine ac_skip ?_
                      refine aq_inN ?_
                      refine aq_then ?_
                      refine ac_region ?_
                      refine al_q (q_move rfl) rfl rfl rfl ?_
                      refine al_q (q_add rfl rfl (by omega)) rfl rfl rfl ?_
                      refine al_q (q_assign rfl) rfl rfl rfl ?_
                      refine al_end ?_
                      refine aq_then ?_
                      skip
                      refine aq_round (x5 + 1) (by omega) trivial ⟨rfl, rfl, rfl, rfl, trivial⟩ (fun w9 hs => (hs.fewer 2 rfl))
                    · have g3 : (iA S.C.shells x5) = 0 := by simpa using hb12
                      refine al_skip rfl rfl rfl ?_
                      refine al_skip rfl rfl rfl ?_
                      refine al_skip rfl rfl rfl ?_
                      refine al_q (q_pickF rfl rfl) rfl rfl rfl ?_
                      refine al_q (q_pickF rfl rfl) rfl rfl rfl ?_
                      refine al_end ?_
                      refine aq_then ?_
                      refine ac_condF rfl ?_
                      refine ac_skip ?_
                      refine aq_inN ?_
                      refine aq_then ?_
                      refine ac_region ?_
                      refine al_q (q_move rfl) rfl rfl rfl ?_
                      refine al_q (q_add rfl rfl (by omega)) rfl rfl rfl ?_
                      refine al_q (q_assign rfl) rfl rfl rfl ?_
                      refine al_end ?_
                      refine aq_then ?_
                      skip
                      refine aq_round (x5 + 1) (by omega) trivial ⟨rfl, rfl, rfl, rfl, trivial⟩ (fun w9 hs => (hs.fewer 2 rfl))
              · skip
                refine ac_exit ?_
                refine aq_thenE ?_
                refine aq_thenE ?_
                refine aq_hit ?_
                refine aq_then ?_
                refine ac_seq ?_
                refine ac_region ?_
                refine al_call Try.call6 .nil rfl rfl (fun w14 hs14 => ?_)
                refine (awake3_any _).mono ?_
                rintro e u14 ⟨rfl, hb_14⟩
                refine ⟨_, rfl, hb_14, ?_⟩
                clear hs14
                refine al_q (q_assign rfl) rfl rfl rfl ?_
                refine al_end ?_
                refine aq_then ?_
                refine ac_ret ?_
                refine ret1 Try.results3 rfl (fun w9 hs => ?_)
                exact ⟨rfl, hs.below⟩
  refine ah_share (fuel' := 5) (listed' := #[true, true, true, true, true, true, true, true, true, true, true, false, false, false, false, false]) (fun K => ∀ (b1001 : Nat), ∀ (b5001 : Nat), ∀ (b17001 : Nat), K [(1, (.pointer (some ⟨b1, 0, none⟩))), (2, (.bool false)), (3, (.pointer (some ⟨b1001, 0, none⟩))), (4, (.pointer (some ⟨b5001, 0, none⟩))), (5, (.pointer (some ⟨b17001, 0, none⟩))), (23, (.pointer (some ⟨b1, 0, none⟩))), (24, (.agg #[(.string M.name), (.slice (R.A) R.la R.ca), (.slice (R.B) R.lb R.cb), (.slice (R.C) R.lc R.cc), (.int .i64 M.grid.r), (.int .i64 M.grid.z), (.int .i64 M.grid.nr), (.int .i64 M.grid.nz), (.int .i64 M.grid.step), (.slice (R.D) R.ld R.cd)])), (25, (.pointer (some ⟨b1, 10, none⟩))), (26, (.agg #[(.int .i64 S.tick), (.slice RS.Q.A RS.Q.la RS.Q.ca), (.slice RS.Q.B RS.Q.lb RS.Q.cb), (.slice RS.Q.C RS.Q.lc RS.Q.cc), (.slice RS.H RS.lh RS.ch), (.slice RS.T RS.lt RS.ct)])), (27, (.pointer (some ⟨b1, 16, none⟩))), (28, (.agg #[(.slice A1 l1 c1), (.slice A2 l2 c2)])), (29, (.pointer (some ⟨b1, 18, none⟩))), (30, (.agg #[(.slice B1 lb1 cb1), (.slice B2 lb2 cb2)]))] [(b17001, .cells [(.slice none 0 0), (.slice none 0 0)]), (b5001, .cells [(.int .i64 0), (.slice none 0 0), (.slice none 0 0), (.slice none 0 0), (.slice none 0 0), (.slice none 0 0)]), (b1001, .cells [(.string { data := #[] }), (.slice none 0 0), (.slice none 0 0), (.slice none 0 0), (.int .i64 0), (.int .i64 0), (.int .i64 0), (.int .i64 0), (.int .i64 0), (.slice none 0 0)]), (b1, .cells [(.string M.name), (.slice (R.A) R.la R.ca), (.slice (R.B) R.lb R.cb), (.slice (R.C) R.lc R.cc), (.int .i64 M.grid.r), (.int .i64 M.grid.z), (.int .i64 M.grid.nr), (.int .i64 M.grid.nz), (.int .i64 M.grid.step), (.slice (R.D) R.ld R.cd), (.int .i64 S.tick), (.slice RS.Q.A RS.Q.la RS.Q.ca), (.slice RS.Q.B RS.Q.lb RS.Q.cb), (.slice RS.Q.C RS.Q.lc RS.Q.cc), (.slice RS.H RS.lh RS.ch), (.slice RS.T RS.lt RS.ct), (.slice A1 l1 c1), (.slice A2 l2 c2), (.slice B1 lb1 cb1), (.slice B2 lb2 cb2)])]) ?_ (fun hS1_1 => ?_)
  · intro b1001 b5001 b17001
    refine ah_one 11 rfl (by kernel_rfl) (fun hok9 hcl9 => ?_)
    refine al_new (fun b => .pointer (some ⟨b, 0, none⟩)) (r_alloc Try.zeroValue37 rfl) rfl rfl rfl ?_
    intro b4
    refine al_end (ah_back hok9 hcl9 (fun w9 hs => (hs.tail 4 rfl)) ?_)
    exact ah_to (hS1_0 b1001 b5001 b17001 b4) rfl (by kernel_rfl) ⟨rfl, rfl, rfl, rfl, rfl, rfl, rfl, rfl, rfl, rfl, rfl, rfl, rfl, rfl, trivial⟩ (fun w9 hs => hs)
  refine ah_share (fuel' := 5) (listed' := #[true, true, true, true, true, true, true, true, true, true, false, true, false, false, false, false]) (fun K => ∀ (b1001 : Nat), ∀ (b5001 : Nat), ∀ (b18001 : Nat), K [(1, (.pointer (some ⟨b1, 0, none⟩))), (2, (.bool false)), (3, (.pointer (some ⟨b1001, 0, none⟩))), (4, (.pointer (some ⟨b5001, 0, none⟩))), (6, (.pointer (some ⟨b18001, 0, none⟩))), (23, (.pointer (some ⟨b1, 0, none⟩))), (24, (.agg #[(.string M.name), (.slice (R.A) R.la R.ca), (.slice (R.B) R.lb R.cb), (.slice (R.C) R.lc R.cc), (.int .i64 M.grid.r), (.int .i64 M.grid.z), (.int .i64 M.grid.nr), (.int .i64 M.grid.nz), (.int .i64 M.grid.step), (.slice (R.D) R.ld R.cd)])), (25, (.pointer (some ⟨b1, 10, none⟩))), (26, (.agg #[(.int .i64 S.tick), (.slice RS.Q.A RS.Q.la RS.Q.ca), (.slice RS.Q.B RS.Q.lb RS.Q.cb), (.slice RS.Q.C RS.Q.lc RS.Q.cc), (.slice RS.H RS.lh RS.ch), (.slice RS.T RS.lt RS.ct)])), (27, (.pointer (some ⟨b1, 16, none⟩))), (28, (.agg #[(.slice A1 l1 c1), (.slice A2 l2 c2)])), (29, (.pointer (some ⟨b1, 18, none⟩))), (30, (.agg #[(.slice B1 lb1 cb1), (.slice B2 lb2 cb2)]))] [(b18001, .cells [(.slice none 0 0), (.slice none 0 0)]), (b5001, .cells [(.int .i64 0), (.slice none 0 0), (.slice none 0 0), (.slice none 0 0), (.slice none 0 0), (.slice none 0 0)]), (b1001, .cells [(.string { data := #[] }), (.slice none 0 0), (.slice none 0 0), (.slice none 0 0), (.int .i64 0), (.int .i64 0), (.int .i64 0), (.int .i64 0), (.int .i64 0), (.slice none 0 0)]), (b1, .cells [(.string M.name), (.slice (R.A) R.la R.ca), (.slice (R.B) R.lb R.cb), (.slice (R.C) R.lc R.cc), (.int .i64 M.grid.r), (.int .i64 M.grid.z), (.int .i64 M.grid.nr), (.int .i64 M.grid.nz), (.int .i64 M.grid.step), (.slice (R.D) R.ld R.cd), (.int .i64 S.tick), (.slice RS.Q.A RS.Q.la RS.Q.ca), (.slice RS.Q.B RS.Q.lb RS.Q.cb), (.slice RS.Q.C RS.Q.lc RS.Q.cc), (.slice RS.H RS.lh RS.ch), (.slice RS.T RS.lt RS.ct), (.slice A1 l1 c1), (.slice A2 l2 c2), (.slice B1 lb1 cb1), (.slice B2 lb2 cb2)])]) ?_ (fun hS1_2 => ?_)
  · intro b1001 b5001 b18001
    refine ah_one 10 rfl (by kernel_rfl) (fun hok10 hcl10 => ?_)
    refine al_new (fun b => .pointer (some ⟨b, 0, none⟩)) (r_alloc Try.zeroValue37 rfl) rfl rfl rfl ?_
    intro b5
    refine al_end (ah_back hok10 hcl10 (fun w9 hs => (hs.tail 4 rfl)) ?_)
    exact ah_to (hS1_0 b1001 b5001 b5 b18001) rfl (by kernel_rfl) ⟨rfl, rfl, rfl, rfl, rfl, rfl, rfl, rfl, rfl, rfl, rfl, rfl, rfl, rfl, trivial⟩ (fun w9 hs => hs.pm (.cons (.there (.here)) (.refl)))
  refine ah_share (fuel' := 5) (listed' := #[true, true, true, true, true, true, true, true, true, false, true, true, false, false, false, false]) (fun K => ∀ (b1001 : Nat), ∀ (b6001 : Nat), ∀ (b20001 : Nat), K [(1, (.pointer (some ⟨b1, 0, none⟩))), (2, (.bool false)), (3, (.pointer (some ⟨b1001, 0, none⟩))), (5, (.pointer (some ⟨b6001, 0, none⟩))), (6, (.pointer (some ⟨b20001, 0, none⟩))), (23, (.pointer (some ⟨b1, 0, none⟩))), (24, (.agg #[(.string M.name), (.slice (R.A) R.la R.ca), (.slice (R.B) R.lb R.cb), (.slice (R.C) R.lc R.cc), (.int .i64 M.grid.r), (.int .i64 M.grid.z), (.int .i64 M.grid.nr), (.int .i64 M.grid.nz), (.int .i64 M.grid.step), (.slice (R.D) R.ld R.cd)])), (25, (.pointer (some ⟨b1, 10, none⟩))), (26, (.agg #[(.int .i64 S.tick), (.slice RS.Q.A RS.Q.la RS.Q.ca), (.slice RS.Q.B RS.Q.lb RS.Q.cb), (.slice RS.Q.C RS.Q.lc RS.Q.cc), (.slice RS.H RS.lh RS.ch), (.slice RS.T RS.lt RS.ct)])), (27, (.pointer (some ⟨b1, 16, none⟩))), (28, (.agg #[(.slice A1 l1 c1), (.slice A2 l2 c2)])), (29, (.pointer (some ⟨b1, 18, none⟩))), (30, (.agg #[(.slice B1 lb1 cb1), (.slice B2 lb2 cb2)]))] [(b20001, .cells [(.slice none 0 0), (.slice none 0 0)]), (b6001, .cells [(.slice none 0 0), (.slice none 0 0)]), (b1001, .cells [(.string { data := #[] }), (.slice none 0 0), (.slice none 0 0), (.slice none 0 0), (.int .i64 0), (.int .i64 0), (.int .i64 0), (.int .i64 0), (.int .i64 0), (.slice none 0 0)]), (b1, .cells [(.string M.name), (.slice (R.A) R.la R.ca), (.slice (R.B) R.lb R.cb), (.slice (R.C) R.lc R.cc), (.int .i64 M.grid.r), (.int .i64 M.grid.z), (.int .i64 M.grid.nr), (.int .i64 M.grid.nz), (.int .i64 M.grid.step), (.slice (R.D) R.ld R.cd), (.int .i64 S.tick), (.slice RS.Q.A RS.Q.la RS.Q.ca), (.slice RS.Q.B RS.Q.lb RS.Q.cb), (.slice RS.Q.C RS.Q.lc RS.Q.cc), (.slice RS.H RS.lh RS.ch), (.slice RS.T RS.lt RS.ct), (.slice A1 l1 c1), (.slice A2 l2 c2), (.slice B1 lb1 cb1), (.slice B2 lb2 cb2)])]) ?_ (fun hS1_3 => ?_)
  · intro b1001 b6001 b20001
    refine ah_one 9 rfl (by kernel_rfl) (fun hok11 hcl11 => ?_)
    refine al_new (fun b => .pointer (some ⟨b, 0, none⟩)) (r_alloc Try.zeroValue35 rfl) rfl rfl rfl ?_
    intro b6
    refine al_end (ah_back hok11 hcl11 (fun w9 hs => (hs.tail 4 rfl)) ?_)
    exact ah_to (hS1_0 b1001 b6 b6001 b20001) rfl (by kernel_rfl) ⟨rfl, rfl, rfl, rfl, rfl, rfl, rfl, rfl, rfl, rfl, rfl, rfl, rfl, rfl, trivial⟩ (fun w9 hs => hs.pm (.cons (.there (.here)) ( .cons (.there (.here)) (.refl))))
  refine ah_share (fuel' := 5) (listed' := #[true, true, true, true, true, true, true, true, false, true, true, true, false, false, false, false]) (fun K => ∀ (b2001 : Nat), ∀ (b9001 : Nat), ∀ (b24001 : Nat), K [(1, (.pointer (some ⟨b1, 0, none⟩))), (2, (.bool false)), (4, (.pointer (some ⟨b2001, 0, none⟩))), (5, (.pointer (some ⟨b9001, 0, none⟩))), (6, (.pointer (some ⟨b24001, 0, none⟩))), (23, (.pointer (some ⟨b1, 0, none⟩))), (24, (.agg #[(.string M.name), (.slice (R.A) R.la R.ca), (.slice (R.B) R.lb R.cb), (.slice (R.C) R.lc R.cc), (.int .i64 M.grid.r), (.int .i64 M.grid.z), (.int .i64 M.grid.nr), (.int .i64 M.grid.nz), (.int .i64 M.grid.step), (.slice (R.D) R.ld R.cd)])), (25, (.pointer (some ⟨b1, 10, none⟩))), (26, (.agg #[(.int .i64 S.tick), (.slice RS.Q.A RS.Q.la RS.Q.ca), (.slice RS.Q.B RS.Q.lb RS.Q.cb), (.slice RS.Q.C RS.Q.lc RS.Q.cc), (.slice RS.H RS.lh RS.ch), (.slice RS.T RS.lt RS.ct)])), (27, (.pointer (some ⟨b1, 16, none⟩))), (28, (.agg #[(.slice A1 l1 c1), (.slice A2 l2 c2)])), (29, (.pointer (some ⟨b1, 18, none⟩))), (30, (.agg #[(.slice B1 lb1 cb1), (.slice B2 lb2 cb2)]))] [(b24001, .cells [(.slice none 0 0), (.slice none 0 0)]), (b9001, .cells [(.slice none 0 0), (.slice none 0 0)]), (b2001, .cells [(.int .i64 0), (.slice none 0 0), (.slice none 0 0), (.slice none 0 0), (.slice none 0 0), (.slice none 0 0)]), (b1, .cells [(.string M.name), (.slice (R.A) R.la R.ca), (.slice (R.B) R.lb R.cb), (.slice (R.C) R.lc R.cc), (.int .i64 M.grid.r), (.int .i64 M.grid.z), (.int .i64 M.grid.nr), (.int .i64 M.grid.nz), (.int .i64 M.grid.step), (.slice (R.D) R.ld R.cd), (.int .i64 S.tick), (.slice RS.Q.A RS.Q.la RS.Q.ca), (.slice RS.Q.B RS.Q.lb RS.Q.cb), (.slice RS.Q.C RS.Q.lc RS.Q.cc), (.slice RS.H RS.lh RS.ch), (.slice RS.T RS.lt RS.ct), (.slice A1 l1 c1), (.slice A2 l2 c2), (.slice B1 lb1 cb1), (.slice B2 lb2 cb2)])]) ?_ (fun hS1_4 => ?_)
  · intro b2001 b9001 b24001
    refine ah_one 8 rfl (by kernel_rfl) (fun hok12 hcl12 => ?_)
    refine al_new (fun b => .pointer (some ⟨b, 0, none⟩)) (r_alloc Try.zeroValue29 rfl) rfl rfl rfl ?_
    intro b7
    refine al_end (ah_back hok12 hcl12 (fun w9 hs => (hs.tail 4 rfl)) ?_)
    exact ah_to (hS1_0 b7 b2001 b9001 b24001) rfl (by kernel_rfl) ⟨rfl, rfl, rfl, rfl, rfl, rfl, rfl, rfl, rfl, rfl, rfl, rfl, rfl, rfl, trivial⟩ (fun w9 hs => hs.pm (.cons (.there (.here)) ( .cons (.there (.here)) ( .cons (.there (.here)) (.refl)))))
  refine ah_share (fuel' := 6) (listed' := #[true, true, true, true, true, true, true, true, true, true, false, false, false, false, false, false]) (fun K => ∀ (b1001 : Nat), ∀ (b5001 : Nat), K [(1, (.pointer (some ⟨b1, 0, none⟩))), (2, (.bool false)), (3, (.pointer (some ⟨b1001, 0, none⟩))), (4, (.pointer (some ⟨b5001, 0, none⟩))), (23, (.pointer (some ⟨b1, 0, none⟩))), (24, (.agg #[(.string M.name), (.slice (R.A) R.la R.ca), (.slice (R.B) R.lb R.cb), (.slice (R.C) R.lc R.cc), (.int .i64 M.grid.r), (.int .i64 M.grid.z), (.int .i64 M.grid.nr), (.int .i64 M.grid.nz), (.int .i64 M.grid.step), (.slice (R.D) R.ld R.cd)])), (25, (.pointer (some ⟨b1, 10, none⟩))), (26, (.agg #[(.int .i64 S.tick), (.slice RS.Q.A RS.Q.la RS.Q.ca), (.slice RS.Q.B RS.Q.lb RS.Q.cb), (.slice RS.Q.C RS.Q.lc RS.Q.cc), (.slice RS.H RS.lh RS.ch), (.slice RS.T RS.lt RS.ct)])), (27, (.pointer (some ⟨b1, 16, none⟩))), (28, (.agg #[(.slice A1 l1 c1), (.slice A2 l2 c2)])), (29, (.pointer (some ⟨b1, 18, none⟩))), (30, (.agg #[(.slice B1 lb1 cb1), (.slice B2 lb2 cb2)]))] [(b5001, .cells [(.int .i64 0), (.slice none 0 0), (.slice none 0 0), (.slice none 0 0), (.slice none 0 0), (.slice none 0 0)]), (b1001, .cells [(.string { data := #[] }), (.slice none 0 0), (.slice none 0 0), (.slice none 0 0), (.int .i64 0), (.int .i64 0), (.int .i64 0), (.int .i64 0), (.int .i64 0), (.slice none 0 0)]), (b1, .cells [(.string M.name), (.slice (R.A) R.la R.ca), (.slice (R.B) R.lb R.cb), (.slice (R.C) R.lc R.cc), (.int .i64 M.grid.r), (.int .i64 M.grid.z), (.int .i64 M.grid.nr), (.int .i64 M.grid.nz), (.int .i64 M.grid.step), (.slice (R.D) R.ld R.cd), (.int .i64 S.tick), (.slice RS.Q.A RS.Q.la RS.Q.ca), (.slice RS.Q.B RS.Q.lb RS.Q.cb), (.slice RS.Q.C RS.Q.lc RS.Q.cc), (.slice RS.H RS.lh RS.ch), (.slice RS.T RS.lt RS.ct), (.slice A1 l1 c1), (.slice A2 l2 c2), (.slice B1 lb1 cb1), (.slice B2 lb2 cb2)])]) ?_ (fun hS1_5 => ?_)
  · intro b1001 b5001
    refine ah_two 10 11 rfl rfl  (by kernel_rfl) (fun hok13 hcl13 => ?_) (fun hok13 hcl13 => ?_)
    · refine al_new (fun b => .pointer (some ⟨b, 0, none⟩)) (r_alloc Try.zeroValue37 rfl) rfl rfl rfl ?_
      intro b8
      refine al_end (ah_back hok13 hcl13 (fun w9 hs => (hs.tail 3 rfl)) ?_)
      exact ah_to (hS1_1 b1001 b5001 b8) rfl (by kernel_rfl) ⟨rfl, rfl, rfl, rfl, rfl, rfl, rfl, rfl, rfl, rfl, rfl, rfl, rfl, trivial⟩ (fun w9 hs => hs)
    · refine al_new (fun b => .pointer (some ⟨b, 0, none⟩)) (r_alloc Try.zeroValue37 rfl) rfl rfl rfl ?_
      intro b9
      refine al_end (ah_back hok13 hcl13 (fun w9 hs => (hs.tail 3 rfl)) ?_)
      exact ah_to (hS1_2 b1001 b5001 b9) rfl (by kernel_rfl) ⟨rfl, rfl, rfl, rfl, rfl, rfl, rfl, rfl, rfl, rfl, rfl, rfl, rfl, trivial⟩ (fun w9 hs => hs)
  refine ah_share (fuel' := 6) (listed' := #[true, true, true, true, true, true, true, true, true, false, true, false, false, false, false, false]) (fun K => ∀ (b1001 : Nat), ∀ (b6001 : Nat), K [(1, (.pointer (some ⟨b1, 0, none⟩))), (2, (.bool false)), (3, (.pointer (some ⟨b1001, 0, none⟩))), (5, (.pointer (some ⟨b6001, 0, none⟩))), (23, (.pointer (some ⟨b1, 0, none⟩))), (24, (.agg #[(.string M.name), (.slice (R.A) R.la R.ca), (.slice (R.B) R.lb R.cb), (.slice (R.C) R.lc R.cc), (.int .i64 M.grid.r), (.int .i64 M.grid.z), (.int .i64 M.grid.nr), (.int .i64 M.grid.nz), (.int .i64 M.grid.step), (.slice (R.D) R.ld R.cd)])), (25, (.pointer (some ⟨b1, 10, none⟩))), (26, (.agg #[(.int .i64 S.tick), (.slice RS.Q.A RS.Q.la RS.Q.ca), (.slice RS.Q.B RS.Q.lb RS.Q.cb), (.slice RS.Q.C RS.Q.lc RS.Q.cc), (.slice RS.H RS.lh RS.ch), (.slice RS.T RS.lt RS.ct)])), (27, (.pointer (some ⟨b1, 16, none⟩))), (28, (.agg #[(.slice A1 l1 c1), (.slice A2 l2 c2)])), (29, (.pointer (some ⟨b1, 18, none⟩))), (30, (.agg #[(.slice B1 lb1 cb1), (.slice B2 lb2 cb2)]))] [(b6001, .cells [(.slice none 0 0), (.slice none 0 0)]), (b1001, .cells [(.string { data := #[] }), (.slice none 0 0), (.slice none 0 0), (.slice none 0 0), (.int .i64 0), (.int .i64 0), (.int .i64 0), (.int .i64 0), (.int .i64 0), (.slice none 0 0)]), (b1, .cells [(.string M.name), (.slice (R.A) R.la R.ca), (.slice (R.B) R.lb R.cb), (.slice (R.C) R.lc R.cc), (.int .i64 M.grid.r), (.int .i64 M.grid.z), (.int .i64 M.grid.nr), (.int .i64 M.grid.nz), (.int .i64 M.grid.step), (.slice (R.D) R.ld R.cd), (.int .i64 S.tick), (.slice RS.Q.A RS.Q.la RS.Q.ca), (.slice RS.Q.B RS.Q.lb RS.Q.cb), (.slice RS.Q.C RS.Q.lc RS.Q.cc), (.slice RS.H RS.lh RS.ch), (.slice RS.T RS.lt RS.ct), (.slice A1 l1 c1), (.slice A2 l2 c2), (.slice B1 lb1 cb1), (.slice B2 lb2 cb2)])]) ?_ (fun hS1_6 => ?_)
  · intro b1001 b6001
    refine ah_two 9 11 rfl rfl  (by kernel_rfl) (fun hok14 hcl14 => ?_) (fun hok14 hcl14 => ?_)
    · refine al_new (fun b => .pointer (some ⟨b, 0, none⟩)) (r_alloc Try.zeroValue35 rfl) rfl rfl rfl ?_
      intro b10
      refine al_end (ah_back hok14 hcl14 (fun w9 hs => (hs.tail 3 rfl)) ?_)
      exact ah_to (hS1_1 b1001 b10 b6001) rfl (by kernel_rfl) ⟨rfl, rfl, rfl, rfl, rfl, rfl, rfl, rfl, rfl, rfl, rfl, rfl, rfl, trivial⟩ (fun w9 hs => hs.pm (.cons (.there (.here)) (.refl)))
    · refine al_new (fun b => .pointer (some ⟨b, 0, none⟩)) (r_alloc Try.zeroValue37 rfl) rfl rfl rfl ?_
      intro b11
      refine al_end (ah_back hok14 hcl14 (fun w9 hs => (hs.tail 3 rfl)) ?_)
      exact ah_to (hS1_3 b1001 b6001 b11) rfl (by kernel_rfl) ⟨rfl, rfl, rfl, rfl, rfl, rfl, rfl, rfl, rfl, rfl, rfl, rfl, rfl, trivial⟩ (fun w9 hs => hs)
  refine ah_share (fuel' := 6) (listed' := #[true, true, true, true, true, true, true, true, true, false, false, true, false, false, false, false]) (fun K => ∀ (b1001 : Nat), ∀ (b7001 : Nat), K [(1, (.pointer (some ⟨b1, 0, none⟩))), (2, (.bool false)), (3, (.pointer (some ⟨b1001, 0, none⟩))), (6, (.pointer (some ⟨b7001, 0, none⟩))), (23, (.pointer (some ⟨b1, 0, none⟩))), (24, (.agg #[(.string M.name), (.slice (R.A) R.la R.ca), (.slice (R.B) R.lb R.cb), (.slice (R.C) R.lc R.cc), (.int .i64 M.grid.r), (.int .i64 M.grid.z), (.int .i64 M.grid.nr), (.int .i64 M.grid.nz), (.int .i64 M.grid.step), (.slice (R.D) R.ld R.cd)])), (25, (.pointer (some ⟨b1, 10, none⟩))), (26, (.agg #[(.int .i64 S.tick), (.slice RS.Q.A RS.Q.la RS.Q.ca), (.slice RS.Q.B RS.Q.lb RS.Q.cb), (.slice RS.Q.C RS.Q.lc RS.Q.cc), (.slice RS.H RS.lh RS.ch), (.slice RS.T RS.lt RS.ct)])), (27, (.pointer (some ⟨b1, 16, none⟩))), (28, (.agg #[(.slice A1 l1 c1), (.slice A2 l2 c2)])), (29, (.pointer (some ⟨b1, 18, none⟩))), (30, (.agg #[(.slice B1 lb1 cb1), (.slice B2 lb2 cb2)]))] [(b7001, .cells [(.slice none 0 0), (.slice none 0 0)]), (b1001, .cells [(.string { data := #[] }), (.slice none 0 0), (.slice none 0 0), (.slice none 0 0), (.int .i64 0), (.int .i64 0), (.int .i64 0), (.int .i64 0), (.int .i64 0), (.slice none 0 0)]), (b1, .cells [(.string M.name), (.slice (R.A) R.la R.ca), (.slice (R.B) R.lb R.cb), (.slice (R.C) R.lc R.cc), (.int .i64 M.grid.r), (.int .i64 M.grid.z), (.int .i64 M.grid.nr), (.int .i64 M.grid.nz), (.int .i64 M.grid.step), (.slice (R.D) R.ld R.cd), (.int .i64 S.tick), (.slice RS.Q.A RS.Q.la RS.Q.ca), (.slice RS.Q.B RS.Q.lb RS.Q.cb), (.slice RS.Q.C RS.Q.lc RS.Q.cc), (.slice RS.H RS.lh RS.ch), (.slice RS.T RS.lt RS.ct), (.slice A1 l1 c1), (.slice A2 l2 c2), (.slice B1 lb1 cb1), (.slice B2 lb2 cb2)])]) ?_ (fun hS1_7 => ?_)
  · intro b1001 b7001
    refine ah_two 9 10 rfl rfl  (by kernel_rfl) (fun hok15 hcl15 => ?_) (fun hok15 hcl15 => ?_)
    · refine al_new (fun b => .pointer (some ⟨b, 0, none⟩)) (r_alloc Try.zeroValue35 rfl) rfl rfl rfl ?_
      intro b12
      refine al_end (ah_back hok15 hcl15 (fun w9 hs => (hs.tail 3 rfl)) ?_)
      exact ah_to (hS1_2 b1001 b12 b7001) rfl (by kernel_rfl) ⟨rfl, rfl, rfl, rfl, rfl, rfl, rfl, rfl, rfl, rfl, rfl, rfl, rfl, trivial⟩ (fun w9 hs => hs.pm (.cons (.there (.here)) (.refl)))
    · refine al_new (fun b => .pointer (some ⟨b, 0, none⟩)) (r_alloc Try.zeroValue37 rfl) rfl rfl rfl ?_
      intro b13
      refine al_end (ah_back hok15 hcl15 (fun w9 hs => (hs.tail 3 rfl)) ?_)
      exact ah_to (hS1_3 b1001 b13 b7001) rfl (by kernel_rfl) ⟨rfl, rfl, rfl, rfl, rfl, rfl, rfl, rfl, rfl, rfl, rfl, rfl, rfl, trivial⟩ (fun w9 hs => hs.pm (.cons (.there (.here)) (.refl)))
  refine ah_share (fuel' := 6) (listed' := #[true, true, true, true, true, true, true, true, false, true, true, false, false, false, false, false]) (fun K => ∀ (b2001 : Nat), ∀ (b9001 : Nat), K [(1, (.pointer (some ⟨b1, 0, none⟩))), (2, (.bool false)), (4, (.pointer (some ⟨b2001, 0, none⟩))), (5, (.pointer (some ⟨b9001, 0, none⟩))), (23, (.pointer (some ⟨b1, 0, none⟩))), (24, (.agg #[(.string M.name), (.slice (R.A) R.la R.ca), (.slice (R.B) R.lb R.cb), (.slice (R.C) R.lc R.cc), (.int .i64 M.grid.r), (.int .i64 M.grid.z), (.int .i64 M.grid.nr), (.int .i64 M.grid.nz), (.int .i64 M.grid.step), (.slice (R.D) R.ld R.cd)])), (25, (.pointer (some ⟨b1, 10, none⟩))), (26, (.agg #[(.int .i64 S.tick), (.slice RS.Q.A RS.Q.la RS.Q.ca), (.slice RS.Q.B RS.Q.lb RS.Q.cb), (.slice RS.Q.C RS.Q.lc RS.Q.cc), (.slice RS.H RS.lh RS.ch), (.slice RS.T RS.lt RS.ct)])), (27, (.pointer (some ⟨b1, 16, none⟩))), (28, (.agg #[(.slice A1 l1 c1), (.slice A2 l2 c2)])), (29, (.pointer (some ⟨b1, 18, none⟩))), (30, (.agg #[(.slice B1 lb1 cb1), (.slice B2 lb2 cb2)]))] [(b9001, .cells [(.slice none 0 0), (.slice none 0 0)]), (b2001, .cells [(.int .i64 0), (.slice none 0 0), (.slice none 0 0), (.slice none 0 0), (.slice none 0 0), (.slice none 0 0)]), (b1, .cells [(.string M.name), (.slice (R.A) R.la R.ca), (.slice (R.B) R.lb R.cb), (.slice (R.C) R.lc R.cc), (.int .i64 M.grid.r), (.int .i64 M.grid.z), (.int .i64 M.grid.nr), (.int .i64 M.grid.nz), (.int .i64 M.grid.step), (.slice (R.D) R.ld R.cd), (.int .i64 S.tick), (.slice RS.Q.A RS.Q.la RS.Q.ca), (.slice RS.Q.B RS.Q.lb RS.Q.cb), (.slice RS.Q.C RS.Q.lc RS.Q.cc), (.slice RS.H RS.lh RS.ch), (.slice RS.T RS.lt RS.ct), (.slice A1 l1 c1), (.slice A2 l2 c2), (.slice B1 lb1 cb1), (.slice B2 lb2 cb2)])]) ?_ (fun hS1_8 => ?_)
  · intro b2001 b9001
    refine ah_two 8 11 rfl rfl  (by kernel_rfl) (fun hok16 hcl16 => ?_) (fun hok16 hcl16 => ?_)
    · refine al_new (fun b => .pointer (some ⟨b, 0, none⟩)) (r_alloc Try.zeroValue29 rfl) rfl rfl rfl ?_
      intro b14
      refine al_end (ah_back hok16 hcl16 (fun w9 hs => (hs.tail 3 rfl)) ?_)
      exact ah_to (hS1_1 b14 b2001 b9001) rfl (by kernel_rfl) ⟨rfl, rfl, rfl, rfl, rfl, rfl, rfl, rfl, rfl, rfl, rfl, rfl, rfl, trivial⟩ (fun w9 hs => hs.pm (.cons (.there (.here)) ( .cons (.there (.here)) (.refl))))
    · refine al_new (fun b => .pointer (some ⟨b, 0, none⟩)) (r_alloc Try.zeroValue37 rfl) rfl rfl rfl ?_
      intro b15
      refine al_end (ah_back hok16 hcl16 (fun w9 hs => (hs.tail 3 rfl)) ?_)
      exact ah_to (hS1_4 b2001 b9001 b15) rfl (by kernel_rfl) ⟨rfl, rfl, rfl, rfl, rfl, rfl, rfl, rfl, rfl, rfl, rfl, rfl, rfl, trivial⟩ (fun w9 hs => hs)
  refine ah_share (fuel' := 6) (listed' := #[true, true, true, true, true, true, true, true, false, true, false, true, false, false, false, false]) (fun K => ∀ (b2001 : Nat), ∀ (b10001 : Nat), K [(1, (.pointer (some ⟨b1, 0, none⟩))), (2, (.bool false)), (4, (.pointer (some ⟨b2001, 0, none⟩))), (6, (.pointer (some ⟨b10001, 0, none⟩))), (23, (.pointer (some ⟨b1, 0, none⟩))), (24, (.agg #[(.string M.name), (.slice (R.A) R.la R.ca), (.slice (R.B) R.lb R.cb), (.slice (R.C) R.lc R.cc), (.int .i64 M.grid.r), (.int .i64 M.grid.z), (.int .i64 M.grid.nr), (.int .i64 M.grid.nz), (.int .i64 M.grid.step), (.slice (R.D) R.ld R.cd)])), (25, (.pointer (some ⟨b1, 10, none⟩))), (26, (.agg #[(.int .i64 S.tick), (.slice RS.Q.A RS.Q.la RS.Q.ca), (.slice RS.Q.B RS.Q.lb RS.Q.cb), (.slice RS.Q.C RS.Q.lc RS.Q.cc), (.slice RS.H RS.lh RS.ch), (.slice RS.T RS.lt RS.ct)])), (27, (.pointer (some ⟨b1, 16, none⟩))), (28, (.agg #[(.slice A1 l1 c1), (.slice A2 l2 c2)])), (29, (.pointer (some ⟨b1, 18, none⟩))), (30, (.agg #[(.slice B1 lb1 cb1), (.slice B2 lb2 cb2)]))] [(b10001, .cells [(.slice none 0 0), (.slice none 0 0)]), (b2001, .cells [(.int .i64 0), (.slice none 0 0), (.slice none 0 0), (.slice none 0 0), (.slice none 0 0), (.slice none 0 0)]), (b1, .cells [(.string M.name), (.slice (R.A) R.la R.ca), (.slice (R.B) R.lb R.cb), (.slice (R.C) R.lc R.cc), (.int .i64 M.grid.r), (.int .i64 M.grid.z), (.int .i64 M.grid.nr), (.int .i64 M.grid.nz), (.int .i64 M.grid.step), (.slice (R.D) R.ld R.cd), (.int .i64 S.tick), (.slice RS.Q.A RS.Q.la RS.Q.ca), (.slice RS.Q.B RS.Q.lb RS.Q.cb), (.slice RS.Q.C RS.Q.lc RS.Q.cc), (.slice RS.H RS.lh RS.ch), (.slice RS.T RS.lt RS.ct), (.slice A1 l1 c1), (.slice A2 l2 c2), (.slice B1 lb1 cb1), (.slice B2 lb2 cb2)])]) ?_ (fun hS1_9 => ?_)
  · intro b2001 b10001
    refine ah_two 8 10 rfl rfl  (by kernel_rfl) (fun hok17 hcl17 => ?_) (fun hok17 hcl17 => ?_)
    · refine al_new (fun b => .pointer (some ⟨b, 0, none⟩)) (r_alloc Try.zeroValue29 rfl) rfl rfl rfl ?_
      intro b16
      refine al_end (ah_back hok17 hcl17 (fun w9 hs => (hs.tail 3 rfl)) ?_)
      exact ah_to (hS1_2 b16 b2001 b10001) rfl (by kernel_rfl) ⟨rfl, rfl, rfl, rfl, rfl, rfl, rfl, rfl, rfl, rfl, rfl, rfl, rfl, trivial⟩ (fun w9 hs => hs.pm (.cons (.there (.here)) ( .cons (.there (.here)) (.refl))))
    · refine al_new (fun b => .pointer (some ⟨b, 0, none⟩)) (r_alloc Try.zeroValue37 rfl) rfl rfl rfl ?_
      intro b17
      refine al_end (ah_back hok17 hcl17 (fun w9 hs => (hs.tail 3 rfl)) ?_)
      exact ah_to (hS1_4 b2001 b17 b10001) rfl (by kernel_rfl) ⟨rfl, rfl, rfl, rfl, rfl, rfl, rfl, rfl, rfl, rfl, rfl, rfl, rfl, trivial⟩ (fun w9 hs => hs.pm (.cons (.there (.here)) (.refl)))
  refine ah_share (fuel' := 6) (listed' := #[true, true, true, true, true, true, true, true, false, false, true, true, false, false, false, false]) (fun K => ∀ (b3001 : Nat), ∀ (b13001 : Nat), K [(1, (.pointer (some ⟨b1, 0, none⟩))), (2, (.bool false)), (5, (.pointer (some ⟨b3001, 0, none⟩))), (6, (.pointer (some ⟨b13001, 0, none⟩))), (23, (.pointer (some ⟨b1, 0, none⟩))), (24, (.agg #[(.string M.name), (.slice (R.A) R.la R.ca), (.slice (R.B) R.lb R.cb), (.slice (R.C) R.lc R.cc), (.int .i64 M.grid.r), (.int .i64 M.grid.z), (.int .i64 M.grid.nr), (.int .i64 M.grid.nz), (.int .i64 M.grid.step), (.slice (R.D) R.ld R.cd)])), (25, (.pointer (some ⟨b1, 10, none⟩))), (26, (.agg #[(.int .i64 S.tick), (.slice RS.Q.A RS.Q.la RS.Q.ca), (.slice RS.Q.B RS.Q.lb RS.Q.cb), (.slice RS.Q.C RS.Q.lc RS.Q.cc), (.slice RS.H RS.lh RS.ch), (.slice RS.T RS.lt RS.ct)])), (27, (.pointer (some ⟨b1, 16, none⟩))), (28, (.agg #[(.slice A1 l1 c1), (.slice A2 l2 c2)])), (29, (.pointer (some ⟨b1, 18, none⟩))), (30, (.agg #[(.slice B1 lb1 cb1), (.slice B2 lb2 cb2)]))] [(b13001, .cells [(.slice none 0 0), (.slice none 0 0)]), (b3001, .cells [(.slice none 0 0), (.slice none 0 0)]), (b1, .cells [(.string M.name), (.slice (R.A) R.la R.ca), (.slice (R.B) R.lb R.cb), (.slice (R.C) R.lc R.cc), (.int .i64 M.grid.r), (.int .i64 M.grid.z), (.int .i64 M.grid.nr), (.int .i64 M.grid.nz), (.int .i64 M.grid.step), (.slice (R.D) R.ld R.cd), (.int .i64 S.tick), (.slice RS.Q.A RS.Q.la RS.Q.ca), (.slice RS.Q.B RS.Q.lb RS.Q.cb), (.slice RS.Q.C RS.Q.lc RS.Q.cc), (.slice RS.H RS.lh RS.ch), (.slice RS.T RS.lt RS.ct), (.slice A1 l1 c1), (.slice A2 l2 c2), (.slice B1 lb1 cb1), (.slice B2 lb2 cb2)])]) ?_ (fun hS1_10 => ?_)
  · intro b3001 b13001
    refine ah_two 8 9 rfl rfl  (by kernel_rfl) (fun hok18 hcl18 => ?_) (fun hok18 hcl18 => ?_)
    · refine al_new (fun b => .pointer (some ⟨b, 0, none⟩)) (r_alloc Try.zeroValue29 rfl) rfl rfl rfl ?_
      intro b18
      refine al_end (ah_back hok18 hcl18 (fun w9 hs => (hs.tail 3 rfl)) ?_)
      exact ah_to (hS1_3 b18 b3001 b13001) rfl (by kernel_rfl) ⟨rfl, rfl, rfl, rfl, rfl, rfl, rfl, rfl, rfl, rfl, rfl, rfl, rfl, trivial⟩ (fun w9 hs => hs.pm (.cons (.there (.here)) ( .cons (.there (.here)) (.refl))))
    · refine al_new (fun b => .pointer (some ⟨b, 0, none⟩)) (r_alloc Try.zeroValue35 rfl) rfl rfl rfl ?_
      intro b19
      refine al_end (ah_back hok18 hcl18 (fun w9 hs => (hs.tail 3 rfl)) ?_)
      exact ah_to (hS1_4 b19 b3001 b13001) rfl (by kernel_rfl) ⟨rfl, rfl, rfl, rfl, rfl, rfl, rfl, rfl, rfl, rfl, rfl, rfl, rfl, trivial⟩ (fun w9 hs => hs.pm (.cons (.there (.here)) ( .cons (.there (.here)) (.refl))))
  · refine ah_take 0 (fun w9 hs => hs) rfl rfl rfl (by kernel_rfl) (by kernel_rfl) (by kernel_rfl) (fun _ _ _ h => h) rfl (q_fieldAddr 0 rfl Try.runUnderlying39 rfl Try.sizeOf29 (by decide) rfl) ?_
    refine ah_take 1 (fun w9 hs => hs) rfl rfl rfl (by kernel_rfl) (by kernel_rfl) (by kernel_rfl) (fun _ _ _ h => h) rfl (q_loadSub (i := 0) rfl rfl Try.isAgg29 Try.sizeOf29 .k0 .k10) ?_
    refine ah_take 2 (fun w9 hs => hs) rfl rfl rfl (by kernel_rfl) (by kernel_rfl) (by kernel_rfl) (fun _ _ _ h => h) rfl (q_fieldAddr 10 rfl Try.runUnderlying39 rfl Try.sizeOf35 (by decide) rfl) ?_
    refine ah_take 3 (fun w9 hs => hs) rfl rfl rfl (by kernel_rfl) (by kernel_rfl) (by kernel_rfl) (fun _ _ _ h => h) rfl (q_loadSub (i := 0) rfl rfl Try.isAgg35 Try.sizeOf35 .k10 .k6) ?_
    refine ah_take 4 (fun w9 hs => hs) rfl rfl rfl (by kernel_rfl) (by kernel_rfl) (by kernel_rfl) (fun _ _ _ h => h) rfl (q_fieldAddr 16 rfl Try.runUnderlying39 rfl Try.sizeOf37 (by decide) rfl) ?_
    refine ah_take 5 (fun w9 hs => hs) rfl rfl rfl (by kernel_rfl) (by kernel_rfl) (by kernel_rfl) (fun _ _ _ h => h) rfl (q_loadSub (i := 0) rfl rfl Try.isAgg37 Try.sizeOf37 .k16 .k2) ?_
    refine ah_take 6 (fun w9 hs => hs) rfl rfl rfl (by kernel_rfl) (by kernel_rfl) (by kernel_rfl) (fun _ _ _ h => h) rfl (q_fieldAddr 18 rfl Try.runUnderlying39 rfl Try.sizeOf37 (by decide) rfl) ?_
    refine ah_take 7 (fun w9 hs => hs) rfl rfl rfl (by kernel_rfl) (by kernel_rfl) (by kernel_rfl) (fun _ _ _ h => h) rfl (q_loadSub (i := 0) rfl rfl Try.isAgg37 Try.sizeOf37 (.s (.s (.k16))) .k2) ?_
    refine ah_four 8 9 10 11 rfl rfl rfl rfl  (by kernel_rfl) (fun hok19 hcl19 => ?_) (fun hok19 hcl19 => ?_) (fun hok19 hcl19 => ?_) (fun hok19 hcl19 => ?_)
    · refine al_new (fun b => .pointer (some ⟨b, 0, none⟩)) (r_alloc Try.zeroValue29 rfl) rfl rfl rfl ?_
      intro b20
      refine al_end (ah_back hok19 hcl19 (fun w9 hs => (hs.tail 1 rfl)) ?_)
      refine ah_three 9 10 11 rfl rfl rfl  (by kernel_rfl) (fun hok20 hcl20 => ?_) (fun hok20 hcl20 => ?_) (fun hok20 hcl20 => ?_)
      · refine al_new (fun b => .pointer (some ⟨b, 0, none⟩)) (r_alloc Try.zeroValue35 rfl) rfl rfl rfl ?_
        intro b21
        refine al_end (ah_back hok20 hcl20 (fun w9 hs => (hs.tail 2 rfl)) ?_)
        exact ah_to (hS1_5 b20 b21) rfl (by kernel_rfl) ⟨rfl, rfl, rfl, rfl, rfl, rfl, rfl, rfl, rfl, rfl, rfl, rfl, trivial⟩ (fun w9 hs => hs)
      · refine al_new (fun b => .pointer (some ⟨b, 0, none⟩)) (r_alloc Try.zeroValue37 rfl) rfl rfl rfl ?_
        intro b22
        refine al_end (ah_back hok20 hcl20 (fun w9 hs => (hs.tail 2 rfl)) ?_)
        exact ah_to (hS1_6 b20 b22) rfl (by kernel_rfl) ⟨rfl, rfl, rfl, rfl, rfl, rfl, rfl, rfl, rfl, rfl, rfl, rfl, trivial⟩ (fun w9 hs => hs)
      · refine al_new (fun b => .pointer (some ⟨b, 0, none⟩)) (r_alloc Try.zeroValue37 rfl) rfl rfl rfl ?_
        intro b23
        refine al_end (ah_back hok20 hcl20 (fun w9 hs => (hs.tail 2 rfl)) ?_)
        exact ah_to (hS1_7 b20 b23) rfl (by kernel_rfl) ⟨rfl, rfl, rfl, rfl, rfl, rfl, rfl, rfl, rfl, rfl, rfl, rfl, trivial⟩ (fun w9 hs => hs)
    · refine al_new (fun b => .pointer (some ⟨b, 0, none⟩)) (r_alloc Try.zeroValue35 rfl) rfl rfl rfl ?_
      intro b24
      refine al_end (ah_back hok19 hcl19 (fun w9 hs => (hs.tail 1 rfl)) ?_)
      refine ah_three 8 10 11 rfl rfl rfl  (by kernel_rfl) (fun hok21 hcl21 => ?_) (fun hok21 hcl21 => ?_) (fun hok21 hcl21 => ?_)
      · refine al_new (fun b => .pointer (some ⟨b, 0, none⟩)) (r_alloc Try.zeroValue29 rfl) rfl rfl rfl ?_
        intro b25
        refine al_end (ah_back hok21 hcl21 (fun w9 hs => (hs.tail 2 rfl)) ?_)
        exact ah_to (hS1_5 b25 b24) rfl (by kernel_rfl) ⟨rfl, rfl, rfl, rfl, rfl, rfl, rfl, rfl, rfl, rfl, rfl, rfl, trivial⟩ (fun w9 hs => hs.pm (.cons (.there (.here)) (.refl)))
      · refine al_new (fun b => .pointer (some ⟨b, 0, none⟩)) (r_alloc Try.zeroValue37 rfl) rfl rfl rfl ?_
        intro b26
        refine al_end (ah_back hok21 hcl21 (fun w9 hs => (hs.tail 2 rfl)) ?_)
        exact ah_to (hS1_8 b24 b26) rfl (by kernel_rfl) ⟨rfl, rfl, rfl, rfl, rfl, rfl, rfl, rfl, rfl, rfl, rfl, rfl, trivial⟩ (fun w9 hs => hs)
      · refine al_new (fun b => .pointer (some ⟨b, 0, none⟩)) (r_alloc Try.zeroValue37 rfl) rfl rfl rfl ?_
        intro b27
        refine al_end (ah_back hok21 hcl21 (fun w9 hs => (hs.tail 2 rfl)) ?_)
        exact ah_to (hS1_9 b24 b27) rfl (by kernel_rfl) ⟨rfl, rfl, rfl, rfl, rfl, rfl, rfl, rfl, rfl, rfl, rfl, rfl, trivial⟩ (fun w9 hs => hs)
    · refine al_new (fun b => .pointer (some ⟨b, 0, none⟩)) (r_alloc Try.zeroValue37 rfl) rfl rfl rfl ?_
      intro b28
      refine al_end (ah_back hok19 hcl19 (fun w9 hs => (hs.tail 1 rfl)) ?_)
      refine ah_three 8 9 11 rfl rfl rfl  (by kernel_rfl) (fun hok22 hcl22 => ?_) (fun hok22 hcl22 => ?_) (fun hok22 hcl22 => ?_)
      · refine al_new (fun b => .pointer (some ⟨b, 0, none⟩)) (r_alloc Try.zeroValue29 rfl) rfl rfl rfl ?_
        intro b29
        refine al_end (ah_back hok22 hcl22 (fun w9 hs => (hs.tail 2 rfl)) ?_)
        exact ah_to (hS1_6 b29 b28) rfl (by kernel_rfl) ⟨rfl, rfl, rfl, rfl, rfl, rfl, rfl, rfl, rfl, rfl, rfl, rfl, trivial⟩ (fun w9 hs => hs.pm (.cons (.there (.here)) (.refl)))
      · refine al_new (fun b => .pointer (some ⟨b, 0, none⟩)) (r_alloc Try.zeroValue35 rfl) rfl rfl rfl ?_
        intro b30
        refine al_end (ah_back hok22 hcl22 (fun w9 hs => (hs.tail 2 rfl)) ?_)
        exact ah_to (hS1_8 b30 b28) rfl (by kernel_rfl) ⟨rfl, rfl, rfl, rfl, rfl, rfl, rfl, rfl, rfl, rfl, rfl, rfl, trivial⟩ (fun w9 hs => hs.pm (.cons (.there (.here)) (.refl)))
      · refine al_new (fun b => .pointer (some ⟨b, 0, none⟩)) (r_alloc Try.zeroValue37 rfl) rfl rfl rfl ?_
        intro b31
        refine al_end (ah_back hok22 hcl22 (fun w9 hs => (hs.tail 2 rfl)) ?_)
        exact ah_to (hS1_10 b28 b31) rfl (by kernel_rfl) ⟨rfl, rfl, rfl, rfl, rfl, rfl, rfl, rfl, rfl, rfl, rfl, rfl, trivial⟩ (fun w9 hs => hs)
    · refine al_new (fun b => .pointer (some ⟨b, 0, none⟩)) (r_alloc Try.zeroValue37 rfl) rfl rfl rfl ?_
      intro b32
      refine al_end (ah_back hok19 hcl19 (fun w9 hs => (hs.tail 1 rfl)) ?_)
      refine ah_three 8 9 10 rfl rfl rfl  (by kernel_rfl) (fun hok23 hcl23 => ?_) (fun hok23 hcl23 => ?_) (fun hok23 hcl23 => ?_)
      · refine al_new (fun b => .pointer (some ⟨b, 0, none⟩)) (r_alloc Try.zeroValue29 rfl) rfl rfl rfl ?_
        intro b33
        refine al_end (ah_back hok23 hcl23 (fun w9 hs => (hs.tail 2 rfl)) ?_)
        exact ah_to (hS1_7 b33 b32) rfl (by kernel_rfl) ⟨rfl, rfl, rfl, rfl, rfl, rfl, rfl, rfl, rfl, rfl, rfl, rfl, trivial⟩ (fun w9 hs => hs.pm (.cons (.there (.here)) (.refl)))
      · refine al_new (fun b => .pointer (some ⟨b, 0, none⟩)) (r_alloc Try.zeroValue35 rfl) rfl rfl rfl ?_
        intro b34
        refine al_end (ah_back hok23 hcl23 (fun w9 hs => (hs.tail 2 rfl)) ?_)
        exact ah_to (hS1_9 b34 b32) rfl (by kernel_rfl) ⟨rfl, rfl, rfl, rfl, rfl, rfl, rfl, rfl, rfl, rfl, rfl, rfl, trivial⟩ (fun w9 hs => hs.pm (.cons (.there (.here)) (.refl)))
      · refine al_new (fun b => .pointer (some ⟨b, 0, none⟩)) (r_alloc Try.zeroValue37 rfl) rfl rfl rfl ?_
        intro b35
        refine al_end (ah_back hok23 hcl23 (fun w9 hs => (hs.tail 2 rfl)) ?_)
        exact ah_to (hS1_10 b35 b32) rfl (by kernel_rfl) ⟨rfl, rfl, rfl, rfl, rfl, rfl, rfl, rfl, rfl, rfl, rfl, rfl, trivial⟩ (fun w9 hs => hs.pm (.cons (.there (.here)) (.refl)))

end Go.Proofs.Ytkhahbnagbjbiaa
end
