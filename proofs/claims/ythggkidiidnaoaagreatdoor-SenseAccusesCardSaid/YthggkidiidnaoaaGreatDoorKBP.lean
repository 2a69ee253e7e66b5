import Derived.Test.YthggkidiidnaoaaGreatDoorKBC
import Derived.Test.YthggkidiidnaoaaGreatDoorKBO
import Derived.Test.YthggkidiidnaoaaGreatDoorRows
import Derived.KernelRfl
import Derived.Laws.StructEq
namespace Go.Proofs.YthggkidiidnaoaaGreatDoor
set_option linter.unusedVariables false
set_option linter.unusedSimpArgs false
section
open Go.RowKit
theorem both_iff {zs : List SpanD} {a b : Nat} : bothB zs a b = true ↔ vld (zs.getD a ⟨0, 0⟩).lo (zs.getD a ⟨0, 0⟩).hi = true ∧ vld (zs.getD b ⟨0, 0⟩).lo (zs.getD b ⟨0, 0⟩).hi = true ∧ (zs.getD a ⟨0, 0⟩).lo ≤ (zs.getD b ⟨0, 0⟩).hi ∧ (zs.getD b ⟨0, 0⟩).lo ≤ (zs.getD a ⟨0, 0⟩).hi := by
 unfold bothB
 rw [decide_eq_true_iff]
 generalize zs.getD a ⟨0, 0⟩ = l
 generalize zs.getD b ⟨0, 0⟩ = r
 unfold meetL
 cases h1 : vld l.lo l.hi
 ·simp
 ·cases h2 : vld r.lo r.hi
  ·simp
  ·have k1 := vld_iff.1 h1
   have k2 := vld_iff.1 h2
   rw [Bool.and_self, if_pos rfl]
   by_cases hm : max l.lo r.lo ≤ min l.hi r.hi
   ·rw [if_pos hm]
    exact ⟨fun _ => ⟨rfl, rfl, by omega, by omega⟩, fun _ => rfl⟩
   ·rw [if_neg hm]
    exact ⟨fun h => by simp at h, fun h => by omega⟩
theorem exc_len {tog : Nat → Nat → Bool} {n a b : Nat} (hn : n ≤ 100) (ha : a ≤ n) (hb : b ≤ n) : (excU tog n a ++ excR tog a b).length ≤ 20000 := by
 have h1 := excU_len tog n a
 have h2 := excR_len tog a b
 have h3 := Nat.mul_le_mul (Nat.le_trans ha hn) hn
 rw [List.length_append]; omega
theorem excU_len9 {tog : Nat → Nat → Bool} {n a : Nat} (hn : n ≤ 100) (ha : a ≤ n) : (excU tog n a).length ≤ 10000 := by
 have h1 := excU_len tog n a
 have h3 := Nat.mul_le_mul (Nat.le_trans ha hn) hn
 omega
theorem exc_yes {tog : Nat → Nat → Bool} {n a b : Nat} (hab : a < b) (h : tog a b = false) : excU tog n a ++ excR tog a (b + 1) = (excU tog n a ++ excR tog a b) ++ [(a, b)] := by rw [excR_yes hab h, List.append_assoc]
theorem exc_no {tog : Nat → Nat → Bool} {n a b : Nat} (h : tog a b = true) : excU tog n a ++ excR tog a (b + 1) = excU tog n a ++ excR tog a b := by rw [excR_no h]
theorem exc_all {tog : Nat → Nat → Bool} {n a b : Nat} (h : b = n) : excU tog n (a + 1) = excU tog n a ++ excR tog a b := by rw [excU_succ, h]
set_option maxRecDepth 100000 in
theorem both_any (F : Option Addr) (n cf a b : Nat) (zs : List SpanD) (w : World) (hF : IsT 2 SpanD.cells w F n zs) (ha : a < n) (hb : b < n) : Calls Tryz.prog 31 #[(.slice F n cf), (.int .i64 (a : Int)), (.int .i64 (b : Int))] w (Ret (.bool (bothB zs a b)) w) := by
 have hl := hF.1
 obtain ⟨b11, o11, hA1, hlt1, hget1⟩ := hF.2 (by omega)
 have hx1 := getD_get (l := zs) (d := ⟨0, 0⟩) (k := a) (by omega)
 obtain ⟨b21, o21, hA2, hlt2, hget2⟩ := hF.2 (by omega)
 have hx2 := getD_get (l := zs) (d := ⟨0, 0⟩) (k := b) (by omega)
 refine calls_ax (vs := [(.slice F n cf), (.int .i64 (a : Int)), (.int .i64 (b : Int))]) Tryz.func31 rfl rfl ?_
 refine ac_seq (ac_region ?_)
 refine al_p (q_assign rfl) (al_end (aq_then ?_))
 refine ac_seq (ac_draw 14 (by kernel_rfl) (by kernel_rfl) ?_)
 refine ah_t 0 (fun w9 hs => hs) rfl rfl (by kernel_rfl) (q_move rfl) (ah_t 1 (fun w9 hs => hs) rfl rfl (by kernel_rfl) (q_move rfl) ?_)
 refine ah_t 2 (fun w9 hs => hs) rfl rfl (by kernel_rfl) (q_indexAddrA (i := a) (o11 + a * 2 + 0) hA1 rfl rfl rfl (by omega) Tryz.runUnderlying81 Tryz.sizeOf67 rfl) (ah_t 3 (fun w9 hs => hs) rfl rfl (by kernel_rfl) (q_loadXs (SpanD.cells (zs.getD a ⟨0, 0⟩)) rfl Tryz.isAgg67 Tryz.sizeOf67 (fun w9 hs j9 v9 h9 => by rw [addr_add]; exact (hs.below.cell (p := ⟨_, _, none⟩) hlt1).trans ((hget1 a _ hx1) j9 v9 h9)) rfl) (ah_t 4 (fun w9 hs => hs) rfl rfl (by kernel_rfl) (q_move rfl) (ah_t 5 (fun w9 hs => hs) rfl rfl (by kernel_rfl) (q_move rfl) ?_)))
 refine ah_t 6 (fun w9 hs => hs) rfl rfl (by kernel_rfl) (q_indexAddrA (i := b) (o21 + b * 2 + 0) hA2 rfl rfl rfl (by omega) Tryz.runUnderlying81 Tryz.sizeOf67 rfl) (ah_t 7 (fun w9 hs => hs) rfl rfl (by kernel_rfl) (q_loadXs (SpanD.cells (zs.getD b ⟨0, 0⟩)) rfl Tryz.isAgg67 Tryz.sizeOf67 (fun w9 hs j9 v9 h9 => by rw [addr_add]; exact (hs.below.cell (p := ⟨_, _, none⟩) hlt2).trans ((hget2 b _ hx2) j9 v9 h9)) rfl) ?_)
 refine ah_two 8 12 rfl rfl  (by kernel_rfl) (fun hok1 hcl1 => ?_) (fun hok1 hcl1 => ?_)
 ·refine al_call Tryz.call61 (.cons rfl (.cons rfl .nil)) rfl rfl (fun w1 hs1 => ?_)
  refine (meet9_any (zs.getD a ⟨0, 0⟩).lo (zs.getD a ⟨0, 0⟩).hi (zs.getD b ⟨0, 0⟩).lo (zs.getD b ⟨0, 0⟩).hi _).mono ?_
  rintro e u1 ⟨rfl, hb_1⟩
  refine ⟨_, rfl, hb_1, ?_⟩
  clear hs1
  refine al_end (ah_back hok1 hcl1 (fun w9 hs => (hs.fewer 1 rfl)) ?_)
  refine ah_t 9 (fun w9 hs => (hs.fewer 1 rfl)) rfl rfl (by kernel_rfl) (q_move rfl) (ah_t 10 (fun w9 hs => (hs.fewer 1 rfl)) rfl rfl (by kernel_rfl) (q_extract rfl rfl) (ah_t 11 (fun w9 hs => (hs.fewer 1 rfl)) rfl rfl (by kernel_rfl) (q_extract rfl rfl) (ah_one 12 rfl (by kernel_rfl) (fun hok2 hcl2 => ?_))))
  refine al_new (fun b => .pointer (some ⟨b, 0, none⟩)) (r_alloc Tryz.zeroValue67 rfl) rfl rfl rfl ?_
  intro b1
  refine al_end (ah_back hok2 hcl2 (fun w9 hs => ((hs.fewer 1 rfl).tail 1 rfl)) ?_)
  refine ah_one 13 rfl (by kernel_rfl) (fun hok3 hcl3 => ?_)
  refine al_storeAll (i := 0) rfl rfl rfl rfl Tryz.sizeOf67 rfl rfl .k0 rfl (al_end (ah_back hok3 hcl3 (fun w9 hs => ((hs.fewer 1 rfl).tail 1 rfl)) ?_))
  refine ah_one 14 rfl (by kernel_rfl) (fun hok4 hcl4 => ?_)
  refine al_p (q_assign rfl) (al_end (ah_last (by kernel_rfl) ?_))
  refine aq_then (ac_seq (ac_region ?_))
  refine al_p (q_move rfl) (al_p (q_eql rfl rfl) (al_p (q_assign rfl) (al_end (aq_then ?_))))
  refine ac_ret (ret1 Tryz.results31 rfl (fun w9 hs => ?_))
  exact ⟨rfl, hs.below⟩
 ·refine al_new (fun b => .pointer (some ⟨b, 0, none⟩)) (r_alloc Tryz.zeroValue67 rfl) rfl rfl rfl ?_
  intro b2
  refine al_end (ah_back hok1 hcl1 (fun w9 hs => (hs.tail 1 rfl)) ?_)
  refine ah_one 8 rfl (by kernel_rfl) (fun hok5 hcl5 => ?_)
  refine al_call Tryz.call61 (.cons rfl (.cons rfl .nil)) rfl rfl (fun w2 hs2 => ?_)
  refine (meet9_any (zs.getD a ⟨0, 0⟩).lo (zs.getD a ⟨0, 0⟩).hi (zs.getD b ⟨0, 0⟩).lo (zs.getD b ⟨0, 0⟩).hi _).mono ?_
  rintro e u2 ⟨rfl, hb_2⟩
  refine ⟨_, rfl, hb_2, ?_⟩
  clear hs2
  refine al_end (ah_back hok5 hcl5 (fun w9 hs => ((hs.fewer 1 rfl).tail 1 rfl)) ?_)
  refine ah_t 9 (fun w9 hs => ((hs.fewer 1 rfl).tail 1 rfl)) rfl rfl (by kernel_rfl) (q_move rfl) (ah_t 10 (fun w9 hs => ((hs.fewer 1 rfl).tail 1 rfl)) rfl rfl (by kernel_rfl) (q_extract rfl rfl) (ah_t 11 (fun w9 hs => ((hs.fewer 1 rfl).tail 1 rfl)) rfl rfl (by kernel_rfl) (q_extract rfl rfl) (ah_one 13 rfl (by kernel_rfl) (fun hok6 hcl6 => ?_))))
  refine al_storeAll (i := 0) rfl rfl rfl rfl Tryz.sizeOf67 rfl rfl .k0 rfl (al_end (ah_back hok6 hcl6 (fun w9 hs => ((hs.fewer 1 rfl).tail 1 rfl)) ?_))
  refine ah_one 14 rfl (by kernel_rfl) (fun hok7 hcl7 => ?_)
  refine al_p (q_assign rfl) (al_end (ah_last (by kernel_rfl) ?_))
  refine aq_then (ac_seq (ac_region ?_))
  refine al_p (q_move rfl) (al_p (q_eql rfl rfl) (al_p (q_assign rfl) (al_end (aq_then ?_))))
  refine ac_ret (ret1 Tryz.results31 rfl (fun w9 hs => ?_))
  exact ⟨rfl, hs.below⟩
theorem caj_bl_x47_0_1 (a0 a1 : Value) (ha0 : a0.oneCell' = true) (ha1 : a1.oneCell' = true) : ∀ w, (Instr.build 47 #[(0, a0), (1, a1)]).run Tryz.prog w = .ok (.agg #[a0, a1]) w := by
 have ea0 : a0.cells = #[a0] := cells_one ha0
 have ea1 : a1.cells = #[a1] := cells_one ha1
 intro w; simp [Instr.build, Instr.fill, cells_agg, Tryz.runUnderlying47, Tryz.zeroValue47, Tryz.sizeOf3, ea0, ea1]
theorem caj_bs_2int_1_0_ (c0_0 c0_1 : Value) : ∀ w, (Instr.buildSlice 44 1 #[(0, .agg #[c0_0, c0_1])]).run Tryz.prog w = .ok (.slice (some ⟨w.heap.size, 0, none⟩) 1 1) (w.alloc (.cells [c0_0, c0_1].toArray 47)) := by
 intro w; (simp [Instr.buildSlice, Instr.fill, cells_agg, newRow, Tryz.runUnderlying44, Tryz.zeroValue47, Tryz.sizeOf47] <;> (rw [(by kernel_rfl : Array.range 2 = #[0, 1])]; simp [Value.cells]))
set_option maxRecDepth 100000 in
theorem cexcl9_any (R : MachR) (M : MachD) (Q : CurR) (C : CurD) (F : Option Addr) (nf cf : Nat) (zs : List SpanD) (w : World) (hM : IsM w R M) (hC : IsC w Q C) (hF : IsT 2 SpanD.cells w F nf zs) (hn : nf ≤ 1000000000000000) : Calls Tryz.prog 11 #[(.agg (machCells R M)), Q.v, (.slice F nf cf)] w (OutT 2 pairN w (candE M C zs) (excZ M C zs)) := by
 refine calls_ax (vs := [(.agg (machCells R M)), Q.v, (.slice F nf cf)]) Tryz.func11 rfl rfl ?_
 refine ac_seq (ac_region ?_)
 refine al_new (fun b => .pointer (some ⟨b, 0, none⟩)) (r_box rfl rfl) rfl rfl rfl ?_
 intro b1
 refine al_new (fun b => .pointer (some ⟨b, 0, none⟩)) (r_box rfl rfl) rfl rfl rfl ?_
 intro b2
 refine al_p (q_assign rfl) (al_p (q_assign rfl) (al_end (aq_then ?_)))
 refine ac_seq (ac_seq (ac_region ?_))
 refine al_p (q_loadAll (i := 1) rfl rfl Tryz.isAgg29 Tryz.sizeOf29 rfl) (al_p (q_loadAll (i := 0) rfl rfl Tryz.isAgg32 Tryz.sizeOf32 rfl) (al_p (q_move rfl) (al_call Tryz.call19 (.cons rfl (.cons rfl (.cons rfl .nil))) rfl rfl (fun w1 hs1 => ?_))))
 refine (explainable_any R M Q C F nf cf zs _ (hM.below hs1.below) (hC.below hs1.below) (hF.below hs1.below) hn).mono ?_
 rintro e u1 ⟨rfl, hb_1⟩
 refine ⟨_, rfl, hb_1, ?_⟩
 clear hs1
 refine al_p (q_not rfl) (al_end (aq_then ?_))
 refine ac_cond rfl (fun h1 => ?_) (fun h1 => ?_)
 ·have hE : explB M C zs = false := by simpa using h1
  refine ac_seq (ac_region ?_)
  refine al_p (q_assign rfl) (al_p (q_assign rfl) (al_end (aq_then ?_)))
  refine ac_ret (aq_thenR (ret2 Tryz.results11 rfl rfl (fun w9 hs => ?_)))
  unfold candE excZ; rw [if_neg (by rw [hE]; decide), if_neg (by rw [hE]; decide)]; exact OutT.nil hs.below
 ·have he : explB M C zs = true := by simpa using h1
  have hexp := explB_iff.1 he
  obtain ⟨hv, hzl, hzs⟩ := hexp
  have hvc := fit2_iff.2 hv
  have hs0 := sound_of hv.check
  have hg := cells_fine hs0.grid
  have hsn := hs0.sensors.1
  have hld := hM.sensors.1
  have hnz := hF.1
  have hcp := hv.plasma.1
  have qc := hC.plasma.1
  have hkc := hC.kc
  refine ac_skip (aq_then (ac_seq (ac_region ?_)))
  refine al_p (q_loadAll (i := 1) rfl rfl Tryz.isAgg29 Tryz.sizeOf29 rfl) (al_p (q_loadAll (i := 0) rfl rfl Tryz.isAgg32 Tryz.sizeOf32 rfl) (al_p (q_move rfl) (al_call Tryz.call20 (.cons rfl (.cons rfl (.cons rfl .nil))) rfl rfl (fun w2 hs2 => ?_))))
  refine (claims9_any R M Q C F nf cf zs _ (hM.below hs2.below) (hC.below hs2.below) (hF.below hs2.below) hn he).mono ?_
  rintro e u2 ⟨p_c, L_c, rfl, N_c, K_c, hb_2⟩
  refine ⟨_, rfl, hb_2, ?_⟩
  clear hs2
  refine al_p (q_assign rfl) (al_end (aq_then ?_))
  refine ac_seq (ac_region ?_)
  refine al_p (q_assign rfl) (al_end (aq_then ?_))
  refine ac_seq (ac_seq (ac_region ?_))
  refine al_p (q_fieldAddr 9 rfl Tryz.runUnderlying29 rfl Tryz.sizeOf27 (by decide) rfl) (al_p (q_load (i := 1) rfl rfl rfl Tryz.isAgg27) (al_p (q_lenS rfl Tryz.runUnderlying27) (al_p (q_move rfl) (al_end (aq_then ?_)))))
  refine ac_block ?_
  refine ac_loop (β := Nat × Gr × List Value) (fun x => x.1 ≤ R.ld ∧ gok x.2.1 (excU (fun a b => togU M C zs a b C.plasma.length) M.sensors.length x.1).length 2 x.2.2 ∧ x.2.2 = (excU (fun a b => togU M C zs a b C.plasma.length) M.sensors.length x.1).flatMap pairN) (fun x => [(3, (.pointer (some ⟨b1, 0, none⟩))), (6, (.slice none 0 0)), (7, (.int .i64 0)), (8, (.slice (some ⟨p_c, 0, none⟩) Q.lc Q.lc)), (9, (.slice (gA x.2.1) (excU (fun a b => togU M C zs a b C.plasma.length) M.sensors.length x.1).length (gC x.2.1))), (23, (.int .i64 (R.ld : Int))), (24, (.int .i64 (x.1 : Int)))]) (fun _ => _) (fun x => (b2, _) :: (b1, _) :: (gt x.2.1 x.2.2 ++ ([]))) (fun x => R.ld - x.1) (0, none, []) ⟨by simp, gok.none 2, rfl⟩ ⟨rfl, rfl, rfl, rfl, rfl, rfl, rfl, trivial⟩ (fun w9 hs => (by rw [show gt none [] = [] from rfl, List.nil_append]; exact hs)) (fun x hF1 => ?_)
  obtain ⟨hxn, hgk, hcs⟩ := hF1
  have htl := excU_len9 (tog := (fun a b => togU M C zs a b C.plasma.length)) (n := M.sensors.length) (a := x.1) (by omega) (by omega)
  refine ac_seq (ac_region ?_)
  refine al_p (q_lss rfl rfl) (al_end (aq_then ?_))
  refine ac_seq ?_
  refine ac_cond rfl (fun h2 => ?_) (fun h2 => ?_)
  ·have hxl : x.1 < R.ld := by have := of_decide_eq_true h2; omega
   refine ac_skip (aq_then (ac_seq (ac_block (ac_seq (ac_region ?_)))))
   refine al_p (q_move rfl) (al_new (fun b => .pointer (some ⟨b, 0, none⟩)) (r_alloc Tryz.zeroValue3 rfl) rfl rfl rfl ?_)
   intro b3
   refine al_store1 (i := 0) rfl rfl rfl rfl Tryz.sizeOf3 .k0 .k0 rfl (al_end (aq_then ?_))
   refine ac_seq (ac_region ?_)
   refine al_p (q_load (i := 0) rfl rfl rfl Tryz.isAgg3) ?_
   refine al_p (q_add rfl rfl (by omega)) (al_new (fun b => .pointer (some ⟨b, 0, none⟩)) (r_alloc Tryz.zeroValue3 rfl) rfl rfl rfl ?_)
   intro b4
   refine al_store1 (i := 0) rfl rfl rfl rfl Tryz.sizeOf3 .k0 .k0 rfl (al_end (aq_then ?_))
   refine ac_block ?_
   refine ac_loop (β := Nat × Nat × Gr × List Value) (fun y => x.1 < y.1 ∧ y.1 ≤ R.ld ∧ gok y.2.2.1 (excU (fun a b => togU M C zs a b C.plasma.length) M.sensors.length x.1 ++ excR (fun a b => togU M C zs a b C.plasma.length) x.1 y.1).length 2 y.2.2.2 ∧ y.2.2.2 = (excU (fun a b => togU M C zs a b C.plasma.length) M.sensors.length x.1 ++ excR (fun a b => togU M C zs a b C.plasma.length) x.1 y.1).flatMap pairN) (fun y => [(3, (.pointer (some ⟨b1, 0, none⟩))), (6, (.slice none 0 0)), (7, (.int .i64 0)), (8, (.slice (some ⟨p_c, 0, none⟩) Q.lc Q.lc)), (9, (.slice (gA y.2.2.1) (excU (fun a b => togU M C zs a b C.plasma.length) M.sensors.length x.1 ++ excR (fun a b => togU M C zs a b C.plasma.length) x.1 y.1).length (gC y.2.2.1))), (10, (.pointer (some ⟨b3, 0, none⟩))), (11, (.pointer (some ⟨y.2.1, 0, none⟩))), (23, (.int .i64 (R.ld : Int))), (24, (.int .i64 (x.1 : Int))), (26, (.int .i64 (x.1 : Int))), (27, (.int .i64 (x.1 : Int)))]) (fun _ => _) (fun y => (y.2.1, .cells [.int .i64 (y.1 : Int)]) :: (b3, _) :: (b2, _) :: (b1, _) :: (gt y.2.2.1 y.2.2.2 ++ ([]))) (fun y => R.ld - y.1) (x.1 + 1, b4, x.2.1, x.2.2) ⟨by simp only; omega, by simp only; omega, by simp only; rw [excR_start, List.append_nil]; exact hgk, by simp only; rw [excR_start, List.append_nil]; exact hcs⟩ ⟨rfl, rfl, rfl, rfl, (by simp only; rw [excR_start, List.append_nil]; rfl), rfl, rfl, rfl, rfl, rfl, rfl, trivial⟩ (fun w9 hs => hs) (fun y hF2 => ?_)
   obtain ⟨hxy, hyn, hgk2, hcs2⟩ := hF2
   have htl2 := exc_len (tog := (fun a b => togU M C zs a b C.plasma.length)) (n := M.sensors.length) (a := x.1) (b := y.1) (by omega) (by omega) (by omega)
   refine ac_seq (ac_seq (ac_region ?_))
   refine al_p (q_load (i := 0) rfl rfl rfl Tryz.isAgg3) ?_
   refine al_p (q_fieldAddr 9 rfl Tryz.runUnderlying29 rfl Tryz.sizeOf27 (by decide) rfl) (al_p (q_load (i := 3) rfl rfl rfl Tryz.isAgg27) (al_p (q_lenS rfl Tryz.runUnderlying27) (al_p (q_lss rfl rfl) (al_end (aq_then ?_)))))
   refine ac_cond rfl (fun h3 => ?_) (fun h3 => ?_)
   ·have hyl : y.1 < R.ld := by have := of_decide_eq_true h3; omega
    refine ac_skip (aq_then (ac_seq (ac_block (ac_seq (ac_region ?_)))))
    refine al_p (q_move rfl) (al_p (q_makeFunc _ _ .nil (.cons rfl (.cons rfl .nil))) (al_inl Tryz.call29 (.cons rfl (.cons rfl .nil)) rfl rfl Tryz.func29 rfl rfl ?_))
    refine ac_seq (ac_region ?_)
    refine al_p (q_assign rfl) (al_end (aq_then ?_))
    refine ac_seq (ac_region ?_)
    refine al_p (q_move rfl) (al_p (q_move rfl) (al_inl Tryz.call60 (.cons rfl (.cons rfl .nil)) rfl rfl Tryz.func60 rfl rfl ?_))
    refine ac_seq (ac_region ?_)
    refine al_p (q_assign rfl) (al_end (aq_then ?_))
    refine ac_seq (ac_seq (ac_region ?_))
    refine al_p (q_move rfl) (al_p (q_lenS rfl Tryz.runUnderlying79) (al_p (q_move rfl) (al_end (aq_then ?_))))
    refine ac_block (ac_loop (β := Nat) (fun j => j ≤ Q.lc ∧ togU M C zs x.1 y.1 j = false) (fun j => [(0, (.slice (some ⟨p_c, 0, none⟩) Q.lc Q.lc)), (1, (.func (.func 30) #[] #[.pointer (some ⟨b3, 0, none⟩), .pointer (some ⟨y.2.1, 0, none⟩)])), (4, (.int .i64 0)), (7, (.int .i64 (Q.lc : Int))), (8, (.int .i64 (j : Int)))]) (fun _ => _) (fun j => (y.2.1, _) :: (b3, _) :: (b2, _) :: (b1, _) :: (gt y.2.2.1 y.2.2.2 ++ ([]))) (fun j => Q.lc - j) 0 ⟨by omega, rfl⟩ ⟨rfl, rfl, rfl, rfl, rfl, trivial⟩ (fun w9 hs => hs) (fun j hF3 => ?_))
    obtain ⟨hjn, hjt⟩ := hF3
    refine ac_seq (ac_region ?_)
    refine al_p (q_lss rfl rfl) (al_end (aq_then ?_))
    refine ac_seq ?_
    refine ac_cond rfl (fun h4 => ?_) (fun h4 => ?_)
    ·have hjl : j < Q.lc := by have := of_decide_eq_true h4; omega
     obtain ⟨b9, hb9⟩ : ∃ b9, L_c[j]? = some b9 := ⟨_, List.getElem?_eq_getElem (by rw [N_c.isT.1]; exact hjl)⟩
     refine ac_skip (aq_then (ac_seq (ac_block (ac_seq (ac_region ?_)))))
     refine al_p (q_move rfl) (al_p (q_assign rfl) (al_end (aq_then ?_)))
     refine ac_seq (ac_region ?_)
     refine al_p (q_move rfl) (al_p (q_move rfl) (al_p (q_move rfl) ?_))
     refine al_p (q_indexAddrA (i := j) (0 + j * 1 + 0) rfl rfl rfl rfl (by omega) Tryz.runUnderlying79 Tryz.sizeOf81 rfl) ?_
     refine al_p (q_loadX rfl Tryz.isAgg81 (fun w9 hs => (hs.cellOf (.head _) (N_c.new _ _ rfl) (isT_lt N_c.isT (by omega)) (isT_cell N_c.isT hb9)))) (al_inlV (fi := []) (ca := [(.pointer (some ⟨b3, 0, none⟩)), (.pointer (some ⟨y.2.1, 0, none⟩))]) rfl Tryz.call30 (.cons rfl .nil) rfl rfl Tryz.func30 rfl rfl ?_)
     refine ac_seq (ac_region ?_)
     refine al_p (q_assign rfl) (al_end (aq_then ?_))
     refine ac_seq (ac_region ?_)
     refine al_p (q_move rfl) (al_p (q_load (i := 1) rfl rfl rfl Tryz.isAgg3) (al_p (q_load (i := 0) rfl rfl rfl Tryz.isAgg3) (al_call Tryz.call31 (.cons rfl (.cons rfl (.cons rfl .nil))) rfl rfl (fun w3 hs3 => ?_))))
     refine (both_any (some ⟨b9, 0, none⟩) R.ld R.ld x.1 y.1 (clL M (bgL M C) zs (j : Int)) _ (hs3.isT (.head _) (K_c j b9 hb9).isT (fun b o e => Or.inl ((K_c j b9 hb9).new b o e))) (by omega) (by omega)).mono ?_
     rintro e u3 ⟨rfl, hb_3⟩
     refine ⟨_, rfl, hb_3, ?_⟩
     clear hs3
     refine al_p (q_assign rfl) (al_end (aq_then ?_))
     refine ac_ret (retI Tryz.results30 (.tmp rfl .nil) .one ?_)
     refine al_end (aq_then ?_)
     refine ac_cond rfl (fun h5 => ?_) (fun h5 => ?_)
     ·have hbo : bothB (clL M (bgL M C) zs (j : Int)) x.1 y.1 = true := h5
      have htg : togU M C zs x.1 y.1 C.plasma.length = true := togU_mono (k := j + 1) (by rw [togU_succ, hbo, Bool.or_true]) (by omega)
      have hct := exc_no (tog := (fun a b => togU M C zs a b C.plasma.length)) (n := M.sensors.length) (a := x.1) (b := y.1) htg
      refine ac_seq (ac_region ?_)
      refine al_p (q_move rfl) (al_p (q_assign rfl) (al_end (aq_then ?_)))
      refine ac_ret (aq_inR (aq_thenR (aq_thenR (aq_inR ?_))))
      refine aq_thenR (retI Tryz.results60 (.tmp rfl .nil) .one ?_)
      refine al_p (q_geq rfl rfl) (al_p (q_assign rfl) (al_end (aq_then ?_)))
      refine ac_ret (retI Tryz.results29 (.tmp rfl .nil) .one ?_)
      refine al_p (q_not rfl) (al_end (aq_then ?_))
      refine ac_cond rfl (fun h6 => ?_) (fun h6 => ?_)
      ·exfalso; first | (simp at h6; done) | (simp at h6; omega)
      ·skip
       refine ac_skip (aq_inN (aq_then (ac_seq (ac_seq (ac_region ?_)))))
       refine al_p (q_load (i := 0) rfl rfl rfl Tryz.isAgg3) (al_end (aq_then ?_))
       refine ac_region (al_new (fun b => .pointer (some ⟨b, 0, none⟩)) (r_alloc Tryz.zeroValue3 rfl) rfl rfl rfl ?_)
       intro b5
       refine al_store1 (i := 0) rfl rfl rfl rfl Tryz.sizeOf3 .k0 .k0 rfl (al_end (aq_then ?_))
       refine aq_pm (.cons (.there (.here)) (.refl)) ?_
       refine ac_region (al_p (q_load (i := 1) rfl rfl rfl Tryz.isAgg3) ?_)
       refine al_p (q_add rfl rfl (by omega)) (al_store1 (i := 1) rfl rfl rfl rfl Tryz.sizeOf3 .k0 .k1 rfl (al_end (aq_then ?_)))
       skip
       refine aq_round ((y.1 + 1, b5, y.2.2.1, y.2.2.2)) (by simp only; omega) ⟨by simp only; omega, by simp only; omega, by simp only; rw [hct]; exact hgk2, by simp only; rw [hct]; exact hcs2⟩ ⟨rfl, rfl, rfl, rfl, (by simp only; rw [hct]; first | rfl | (rw [len_snoc]; rfl)), rfl, rfl, rfl, rfl, rfl, rfl, trivial⟩ (fun w9 hs => ((hs.fewer 1 rfl).tail 1 rfl))
     ·have hbo : bothB (clL M (bgL M C) zs (j : Int)) x.1 y.1 = false := h5
      refine ac_skip (aq_inN (aq_then (ac_region ?_)))
      refine al_p (q_add rfl rfl (by omega)) (al_p (q_move rfl) (al_end (aq_then ?_)))
      skip
      refine aq_round (j + 1) (by omega) ⟨by omega, by rw [togU_succ, hjt, hbo]; rfl⟩ ⟨rfl, rfl, rfl, rfl, rfl, trivial⟩ (fun w9 hs => (hs.fewer 1 rfl))
    ·have hje : j = Q.lc := by have := of_decide_eq_false h4; omega
     have htg : togU M C zs x.1 y.1 C.plasma.length = false := by rw [show C.plasma.length = j by omega]; exact hjt
     have hct := exc_yes (tog := (fun a b => togU M C zs a b C.plasma.length)) (n := M.sensors.length) (a := x.1) (b := y.1) hxy htg
     refine ac_exit (aq_thenE (aq_thenE (aq_hit (aq_then ?_))))
     refine ac_seq (ac_region ?_)
     refine al_p (q_assign rfl) (al_end (aq_then ?_))
     refine ac_ret (retI Tryz.results60 (.tmp rfl .nil) .one ?_)
     refine al_p (q_geq rfl rfl) (al_p (q_assign rfl) (al_end (aq_then ?_)))
     refine aq_keepL [4] (.cons rfl .nil) ?_
     refine ac_ret (retI Tryz.results29 (.tmp rfl .nil) .one ?_)
     refine al_p (q_not rfl) (al_end (aq_then ?_))
     refine ac_cond rfl (fun h7 => ?_) (fun h7 => ?_)
     ·skip
      refine ac_region (al_p (q_move rfl) (al_p (q_load (i := 1) rfl rfl rfl Tryz.isAgg3) (al_p (q_load (i := 0) rfl rfl rfl Tryz.isAgg3) (al_p (q_build (.cons rfl (.cons rfl .nil)) (caj_bl_x47_0_1 _ _ rfl rfl)) ?_))))
      refine al_new (fun b => .slice (some ⟨b, 0, none⟩) 1 1) (r_buildSlice (.cons rfl .nil) (caj_bs_2int_1_0_ _ _)) rfl rfl rfl ?_
      intro b6
      refine al_grow (z := 2) (bytes := 16) (zv := (.agg #[.int .i64 0, .int .i64 0])) (o := y.2.2.1) (cs := y.2.2.2) (vs := [.int .i64 (x.1 : Int), .int .i64 (y.1 : Int)]) rfl rfl (.s (.s (.s (.s (.s (.z)))))) hgk2 (Sor.box (j := 0) rfl rfl rfl) Tryz.underlying44 (by kernel_rfl) rfl (by omega) (by decide) rfl rfl (fun o_1 g_1 => ?_)
      refine ⟨_, (.s (.s (.s (.s (.s (.z)))))), ?_⟩
      refine al_p (q_assign rfl) (al_end (aq_inN (aq_then (ac_seq ?_))))
      refine ac_seq (ac_region ?_)
      refine al_p (q_load (i := 1) rfl rfl rfl Tryz.isAgg3) (al_end (aq_then ?_))
      refine ac_region (al_new (fun b => .pointer (some ⟨b, 0, none⟩)) (r_alloc Tryz.zeroValue3 rfl) rfl rfl rfl ?_)
      intro b7
      refine al_store1 (i := 0) rfl rfl rfl rfl Tryz.sizeOf3 .k0 .k0 rfl (al_end (aq_then ?_))
      refine aq_pm (.cons (.there (.here)) ( .cons (.there (.here)) (.refl))) ?_
      refine ac_region (al_p (q_load (i := 2) rfl rfl rfl Tryz.isAgg3) ?_)
      refine al_p (q_add rfl rfl (by omega)) (al_store1 (i := 2) rfl rfl rfl rfl Tryz.sizeOf3 .k0 .k2 rfl (al_end (aq_then ?_)))
      skip
      refine aq_round ((y.1 + 1, b7, o_1, (y.2.2.2 ++ [.int .i64 (x.1 : Int), .int .i64 (y.1 : Int)]))) (by simp only; omega) ⟨by simp only; omega, by simp only; omega, by simp only; rw [hct, List.length_append]; exact g_1, by simp only; rw [hct, hcs2]; exact (flat_snoc pairN _ (x.1, y.1)).symm⟩ ⟨rfl, rfl, rfl, rfl, (by simp only; rw [hct]; first | rfl | (rw [len_snoc]; rfl)), rfl, rfl, rfl, rfl, rfl, rfl, trivial⟩ (fun w9 hs => (hs.tail 2 rfl))
     ·exfalso; first | (simp at h7; done) | (simp at h7; omega)
   ·have hye : y.1 = M.sensors.length := by have := of_decide_eq_false h3; omega
    refine ac_exit (aq_thenE (aq_thenE (aq_hit (aq_inN ?_))))
    refine aq_then (ac_region ?_)
    refine al_p (q_add rfl rfl (by omega)) (al_p (q_move rfl) (al_end (aq_then ?_)))
    skip
    refine aq_round ((x.1 + 1, y.2.2.1, y.2.2.2)) (by simp only; omega) ⟨by simp only; omega, by simp only; rw [exc_all (b := y.1) (by omega)]; exact hgk2, by simp only; rw [exc_all (b := y.1) (by omega)]; exact hcs2⟩ ⟨rfl, rfl, rfl, rfl, (by simp only; rw [exc_all (b := y.1) (by omega)]; rfl), rfl, rfl, trivial⟩ (fun w9 hs => (hs.tail 2 rfl))
  ·have hxe : x.1 = M.sensors.length := by have := of_decide_eq_false h2; omega
   refine ac_exit (aq_thenE (aq_thenE (aq_hit (aq_then ?_))))
   refine ac_seq (ac_region ?_)
   refine al_p (q_move rfl) (al_p (q_assign rfl) (al_p (q_assign rfl) (al_end (aq_then ?_))))
   refine ac_ret (ret2 Tryz.results11 rfl rfl (fun w9 hs => ?_))
   have hL : excZ M C zs = (excU (fun a b => togU M C zs a b C.plasma.length) M.sensors.length x.1) := by unfold excZ; rw [if_pos he, hxe]
   unfold candE; rw [if_pos he, hL]; exact OutT.ok (hs.grown (enc := pairN) (o := x.2.1) (cs := x.2.2) (zs := (excU (fun a b => togU M C zs a b C.plasma.length) M.sensors.length x.1)) (fun _ => rfl) (fun y hy => by simp [hy]) hgk hcs.symm rfl) hs.below
end
end Go.Proofs.YthggkidiidnaoaaGreatDoor
