import Derived.Test.YthggkidiidnaoaaGreatDoorMAY
import Derived.Test.YthggkidiidnaoaaGreatDoorMBP
import Derived.Test.YthggkidiidnaoaaGreatDoorRows
import Derived.KernelRfl
import Derived.Laws.StructEq
namespace Go.Proofs.YthggkidiidnaoaaGreatDoor
set_option linter.unusedVariables false
set_option linter.unusedSimpArgs false
section
open Go.RowKit
def OutB (w : World) (E : Int) (s : Bst) (zs : List Int) (e : Ending) (w' : World) : Prop := ∃ A n c, e = .returned (.tuple #[.agg #[.int .i64 s.2.1, .int .i64 s.2.2, .slice A n c], .int .i64 E]) ∧ NewT 1 intCells w.heap.size w' A n c zs ∧ Below w.heap.size w w'
theorem OutB.nil {w w' : World} {E : Int} (hb : Below w.heap.size w w') : OutB w E (0, 0, 0) [] (.returned (.tuple #[.agg #[.int .i64 0, .int .i64 0, .slice none 0 0], .int .i64 E])) w' :=
  ⟨none, 0, 0, rfl, ⟨IsT.nil _ _ _ _, fun b o e => (by cases e), Nat.le_refl _, by omega⟩, hb⟩
theorem Sta.ne {E : Cfg} {U : Snaps} {L : Boxes} {w : World} {i j b c : Nat} {cs ds : Cont} (h : Sta E U L w) (hi : L[i]? = some (b, cs)) (hj : L[j]? = some (c, ds)) (hij : i ≠ j) : b ≠ c := fun e => hij (h.apart i j b cs ds hi (e ▸ hj))
theorem low_of {L : Boxes} {n : Nat} (h : ∀ p ∈ L, p.1 < n) (i b : Nat) (c : Cont) (hi : L[i]? = some (b, c)) : b < n := h _ (List.mem_of_getElem? hi)
theorem acc_end {M : MachD} {C : CurD} {zs : List SpanD} {N lo0 : Nat} {z : AccX} (he : explB M C zs = true) (hF : AccF N (cntA M C zs) (triA M C zs) (lyA M C zs) lo0 z) (hk : z.k = C.plasma.length) : z.s = accB M C zs ∧ z.zs = accZ M C zs := by
  have hS : z.s = accL M C zs := by rw [hF.s, hk]; rfl
  refine ⟨by unfold accB; rw [if_pos he, hS], ?_⟩
  obtain ⟨i, x, -, -, -, e⟩ := accL_in (M := M) (C := C) (zs := zs) (plasma_pos he)
  have h0 := cntA_nn M C zs i x
  unfold accZ
  rw [if_pos he, ← hS]
  rcases hF.zs with ⟨h, -⟩ | ⟨-, h⟩
  · rw [hS, e] at h; simp only at h; omega
  · exact h
theorem cah_bl_apiBlame_ : ∀ w, (Instr.build 39 #[]).run Tryz.prog w = .ok (.agg #[(.int .i64 0), (.int .i64 0), (.slice none 0 0)]) w := by
  intro w; simp [Instr.build, Instr.fill, cells_agg, Tryz.runUnderlying39, Tryz.zeroValue39, Tryz.sizeOf3, Tryz.sizeOf30]
theorem cah_bl_apiBlame_0_1_2 (a0 a1 a2 : Value) (ha0 : a0.oneCell' = true) (ha1 : a1.oneCell' = true) (ha2 : a2.oneCell' = true) : ∀ w, (Instr.build 39 #[(0, a0), (1, a1), (2, a2)]).run Tryz.prog w = .ok (.agg #[a0, a1, a2]) w := by
  have ea0 : a0.cells = #[a0] := cells_one ha0
  have ea1 : a1.cells = #[a1] := cells_one ha1
  have ea2 : a2.cells = #[a2] := cells_one ha2
  intro w; simp [Instr.build, Instr.fill, cells_agg, Tryz.runUnderlying39, Tryz.zeroValue39, Tryz.sizeOf3, Tryz.sizeOf30, ea0, ea1, ea2]
set_option maxRecDepth 100000 in
theorem caccuse9_any (R : MachR) (M : MachD) (Q : CurR) (C : CurD) (F : Option Addr) (nf cf : Nat) (zs : List SpanD) (w : World) (hM : IsM w R M) (hC : IsC w Q C) (hF : IsT 2 SpanD.cells w F nf zs) (hn : nf ≤ 1000000000000000) : Calls Tryz.prog 8 #[(.agg (machCells R M)), Q.v, (.slice F nf cf)] w (OutB w (candE M C zs) (accB M C zs) (accZ M C zs)) := by
  refine calls_axM (vs := [(.agg (machCells R M)), Q.v, (.slice F nf cf)]) Tryz.func8 rfl rfl ?_
  refine ac_seq (ac_region ?_)
  refine al_new (fun b => .pointer (some ⟨b, 0, none⟩)) (r_box rfl rfl) rfl rfl rfl ?_
  intro b1
  refine al_new (fun b => .pointer (some ⟨b, 0, none⟩)) (r_box rfl rfl) rfl rfl rfl ?_
  intro b2
  refine al_new (fun b => .pointer (some ⟨b, 0, none⟩)) (r_alloc Tryz.zeroValue39 rfl) rfl rfl rfl ?_
  intro b3
  refine al_p (q_assign rfl) (al_end (aq_then ?_))
  refine ac_seq (ac_seq (ac_region ?_))
  refine al_p (q_loadAll (i := 2) rfl rfl Tryz.isAgg29 Tryz.sizeOf29 rfl) (al_p (q_loadAll (i := 1) rfl rfl Tryz.isAgg32 Tryz.sizeOf32 rfl) (al_p (q_move rfl) (al_call Tryz.call19 (.cons rfl (.cons rfl (.cons rfl .nil))) rfl rfl (fun w1 hs1 => ?_))))
  refine (explainable_any R M Q C F nf cf zs _ (hM.below hs1.below) (hC.below hs1.below) (hF.below hs1.below) hn).mono ?_
  rintro e u1 ⟨rfl, hb_1⟩
  refine ⟨_, rfl, hb_1, ?_⟩
  clear hs1
  refine al_p (q_not rfl) (al_end (aq_then ?_))
  refine ac_cond rfl (fun h1 => ?_) (fun h1 => ?_)
  · have hE : explB M C zs = false := by simpa using h1
    refine ac_seq (ac_region ?_)
    refine al_p (q_build .nil (cah_bl_apiBlame_)) (al_storeAll (i := 0) rfl rfl rfl rfl Tryz.sizeOf39 rfl rfl .k0 rfl (al_p (q_assign rfl) (al_end (aq_then ?_))))
    refine ac_ret (aq_thenR (retM Tryz.results8 (.agg (i := 0) rfl rfl Tryz.isAgg39 Tryz.sizeOf39 rfl (.tmp rfl .nil)) .two (fun w9 hs => ?_)))
    unfold accB accZ candE; rw [if_neg (by rw [hE]; decide), if_neg (by rw [hE]; decide), if_neg (by rw [hE]; decide)]; exact OutB.nil hs.below
  · have he : explB M C zs = true := by simpa using h1
    have hexp := explB_iff.1 he
    obtain ⟨hv, hzl, hzs⟩ := hexp
    have hvc := fit2_iff.2 hv
    have hs0 := sound_of hv.check
    have hg := cells_fine hs0.grid
    have hsn := hs0.sensors.1
    have hld := hM.sensors.1
    have hnz := hF.1
    have hcp := hv.plasma.1
    have qc := hC.plasma.1
    have hkc := hC.kc
    refine ac_skip (aq_then (ac_seq (ac_region ?_)))
    refine al_new (fun b => .pointer (some ⟨b, 0, none⟩)) (r_alloc Tryz.zeroValue39 rfl) rfl rfl rfl ?_
    intro b4
    refine al_end (aq_then ?_)
    refine ac_seq (ac_region ?_)
    refine al_new (fun b => .pointer (some ⟨b, 0, none⟩)) (r_alloc Tryz.zeroValue3 rfl) rfl rfl rfl ?_
    intro b5
    refine al_store1 (i := 0) rfl rfl rfl rfl Tryz.sizeOf3 .k0 .k0 rfl (al_end (aq_then ?_))
    refine ac_seq (ac_seq (ac_region ?_))
    refine al_p (q_loadAll (i := 4) rfl rfl Tryz.isAgg29 Tryz.sizeOf29 rfl) (al_p (q_loadAll (i := 3) rfl rfl Tryz.isAgg32 Tryz.sizeOf32 rfl) (al_p (q_move rfl) (al_call Tryz.call20 (.cons rfl (.cons rfl (.cons rfl .nil))) rfl rfl (fun w2 hs2 => ?_))))
    have hlb5 := (hs2.at 0 rfl).lt
    have hlb4 := (hs2.at 1 rfl).lt
    have hlb3 := (hs2.at 2 rfl).lt
    have hlb2 := (hs2.at 3 rfl).lt
    have hlb1 := (hs2.at 4 rfl).lt
    have hz2 := hs2.below.size
    refine (claims9_any R M Q C F nf cf zs _ (hM.below hs2.below) (hC.below hs2.below) (hF.below hs2.below) hn he).mono ?_
    rintro e u2 ⟨p_c, L_c, rfl, N_c, K_c, hb_2⟩
    have hb2 := hb_2.size
    have hlo2 : w.heap.size ≤ u2.heap.size := Nat.le_trans hz2 hb2
    refine ⟨_, rfl, hb_2, ?_⟩
    clear hs2
    refine al_p (q_lenS rfl Tryz.runUnderlying79) (al_p (q_move rfl) (al_end (aq_then ?_)))
    refine ac_block (ac_loopD (β := AccX) (fun z => AccF Q.lc (cntA M C zs) (triA M C zs) (lyA M C zs) u2.heap.size z) (fun z => z.Ds.map markD) (fun z => [(6, (.pointer (some ⟨b3, 0, none⟩))), (7, (.int .i64 0)), (8, (.pointer (some ⟨b4, 0, none⟩))), (9, (.pointer (some ⟨b5, 0, none⟩))), (23, (.slice (some ⟨p_c, 0, none⟩) Q.lc Q.lc)), (24, (.int .i64 (Q.lc : Int))), (25, (.int .i64 (z.k : Int)))]) (fun z => [(u2.heap.size, z.u), (w2.heap.size, u2), (w1.heap.size, u1)]) (fun z => [(b5, .cells [.int .i64 z.s.1]), (b4, .cells [.int .i64 z.s.2.1, .int .i64 z.s.2.2, .slice z.A z.n z.c]), (b3, _), (b2, _), (b1, _)]) (fun z => Q.lc - z.k) ⟨0, (-1, 0, 0), none, 0, 0, [], [], u2⟩ (AccF.init u2) rfl ⟨rfl, rfl, rfl, rfl, rfl, rfl, rfl, trivial⟩ (fun w9 hs => (hs.snapEmpty (.head _))) (fun z hF1 => ?_))
    refine ac_seq (ac_region ?_)
    refine al_p (q_lss rfl rfl) (al_end (aq_then ?_))
    refine ac_seq ?_
    refine ac_cond rfl (fun h2 => ?_) (fun h2 => ?_)
    · have hzl : z.k < Q.lc := by have := of_decide_eq_true h2; omega
      obtain ⟨b9, hb9⟩ : ∃ b9, L_c[z.k]? = some b9 := ⟨_, List.getElem?_eq_getElem (by rw [N_c.isT.1]; exact hzl)⟩
      refine ac_skip (aq_then (ac_seq (ac_block (ac_seq (ac_region ?_)))))
      refine al_p (q_move rfl) ?_
      refine al_p (q_indexAddrA (i := z.k) (0 + z.k * 1 + 0) rfl rfl rfl rfl (by omega) Tryz.runUnderlying79 Tryz.sizeOf81 rfl) ?_
      refine al_p (q_loadX rfl Tryz.isAgg81 (fun w9 hs => (hs.cellOf (.tail _ (.head _)) (N_c.new _ _ rfl) (isT_lt N_c.isT (by omega)) (isT_cell N_c.isT hb9)))) (al_new (fun b => .pointer (some ⟨b, 0, none⟩)) (r_alloc Tryz.zeroValue3 rfl) rfl rfl rfl ?_)
      intro b6
      refine al_new (fun b => .pointer (some ⟨b, 0, none⟩)) (r_alloc Tryz.zeroValue81 rfl) rfl rfl rfl ?_
      intro b7
      refine al_store1 (i := 1) rfl rfl rfl rfl Tryz.sizeOf3 .k0 .k1 rfl (al_store1 (i := 0) rfl rfl rfl rfl Tryz.sizeOf81 .k0 .k0 rfl (al_end (aq_then ?_)))
      refine ac_seq (ac_region ?_)
      refine al_p (q_load (i := 0) rfl rfl rfl Tryz.isAgg81) (al_callS Tryz.call21 (.cons rfl .nil) rfl rfl (fun w3 hs3 => ?_))
      have hCb : IsT 2 SpanD.cells w3 (some ⟨b9, 0, none⟩) R.ld (clL M (bgL M C) zs (z.k : Int)) := hs3.isT (.tail _ (.head _)) (K_c z.k b9 hb9).isT (fun b o e => Or.inl ((K_c z.k b9 hb9).new b o e))
      refine (beginnings9_any (some ⟨b9, 0, none⟩) R.ld R.ld (clL M (bgL M C) zs (z.k : Int)) _ hCb (by omega)).mono ?_
      rintro e u3 ⟨bv, bl, c_b, sp_b, rfl, hb_3⟩
      refine ⟨_, _, _, rfl, hs3.gift hb_3, ?_⟩
      refine al_end (aq_then ?_)
      refine ac_block ?_
      refine ac_range2 (b := b5) (c := b4) (N := (begU (clL M (bgL M C) zs (z.k : Int)) R.ld).length) (Gd := fun k x => (begL (clL M (bgL M C) zs (z.k : Int)))[k]? = some x) (enc := (fun x : Int => .int .i64 x)) 4 5 (fun k y => AccG (cntA M C zs (z.k : Int)) (z.k : Int) (begL (clL M (bgL M C) zs (z.k : Int))) (lyA M C zs) u2.heap.size z.s k y) (fun y W => IsT 1 intCells W y.A y.n y.zs) (fun y => .cells [.int .i64 y.s.1]) (fun y => .cells [.int .i64 y.s.2.1, .int .i64 y.s.2.2, .slice y.A y.n y.c]) (fun k x => [(8, (.pointer (some ⟨b4, 0, none⟩))), (9, (.pointer (some ⟨b5, 0, none⟩))), (10, (.pointer (some ⟨b6, 0, none⟩))), (11, (.pointer (some ⟨b7, 0, none⟩))), (12, (.int .i64 x)), (32, (.int .i64 x))]) (fun y => [(bv, _), (bl, _), (b7, .cells [(.slice (some ⟨b9, 0, none⟩) R.ld R.ld)]), (b6, .cells [(.int .i64 (z.k : Int))]), (b5, .cells [.int .i64 y.s.1]), (b4, .cells [.int .i64 y.s.2.1, .int .i64 y.s.2.2, .slice y.A y.n y.c]), (b3, .cells [(.int .i64 0), (.int .i64 0), (.slice none 0 0)]), (b2, .cells [(.slice Q.A Q.la Q.ca), (.slice Q.B Q.lb Q.cb), (.slice Q.C Q.lc Q.cc)]), (b1, .cells (machCells R M).toList)]) z rfl Tryz.call91 rfl (by decide) (fun _ => rfl) (fun _ => rfl) (fun _ _ => rfl) rfl (hF1.start _ _) (fun v hs => hs.isT (.head _) hF1.list (fun b o e => Or.inl (hF1.new b o e))) (fun v y W W2 hs h hm => IsT.mv (fun _ => by simp [intCells]) h hm (fun b o _ => by simp)) ?_ ?_ ?_ ?_
      · intro v hs
        have n1 := hs.ne (i := 0) (j := 4) rfl rfl (by decide)
        have n2 := hs.ne (i := 0) (j := 5) rfl rfl (by decide)
        have n3 := hs.ne (i := 1) (j := 4) rfl rfl (by decide)
        have n4 := hs.ne (i := 1) (j := 5) rfl rfl (by decide)
        exact valuesI_any bv (begU (clL M (bgL M C) zs (z.k : Int)) R.ld).length c_b (some ⟨bl, 0, none⟩) (begL (clL M (bgL M C) zs (z.k : Int))) [b5, b4] v (((hs.at 0 rfl).cell _ rfl 0 _ rfl).1) (hs.at 0 rfl).lt (isT_box (n := 1) (enc := intCells) (fun _ => rfl) (hs.at 1 rfl) (flat_int _) (by rw [begL_len, clL_len, hld])) (by have := begU_len (clL M (bgL M C) zs (z.k : Int)) R.ld; omega) (by simp [n1, n2]) (fun b o e => by cases e; simp [n3, n4])
      · intro k x lf W Q9 hk9 hg9 hQ9 k9
        have hW9 : Wide (Fence.wide.inRound lf) := Or.inr ⟨lf, rfl⟩
        refine ci_region hW9 hQ9 rfl ?_
        refine al_p (q_assign rfl) (al_end ?_)
        exact aq_sub k9 ⟨rfl, rfl, rfl, rfl, rfl, rfl, trivial⟩ (fun w9 hs => hs)
      · intro k x y lf W Q9 hk9 hg9 hy9 hQ9 hP9 hS9 hK9 k9
        have hW9 : Wide (Fence.wide.inRound lf) := Or.inr ⟨lf, rfl⟩
        have hy_b6 : W.cell? ⟨b6, 0, none⟩ = some (.int .i64 (z.k : Int)) := ((hS9.at 3 rfl).cell _ rfl 0 _ rfl).1
        have l_b6 := (hS9.at 3 rfl).lt
        have ne_b6 := hS9.ne (i := 3) (j := 4) rfl rfl (by decide)
        have nf_b6 := hS9.ne (i := 3) (j := 5) rfl rfl (by decide)
        have hy_b7 : W.cell? ⟨b7, 0, none⟩ = some (.slice (some ⟨b9, 0, none⟩) R.ld R.ld) := ((hS9.at 2 rfl).cell _ rfl 0 _ rfl).1
        have l_b7 := (hS9.at 2 rfl).lt
        have ne_b7 := hS9.ne (i := 2) (j := 4) rfl rfl (by decide)
        have nf_b7 := hS9.ne (i := 2) (j := 5) rfl rfl (by decide)
        have hCW : IsT 2 SpanD.cells W (some ⟨b9, 0, none⟩) R.ld (clL M (bgL M C) zs (z.k : Int)) := hS9.isT (.tail _ (.head _)) (K_c z.k b9 hb9).isT (fun b o e => Or.inl ((K_c z.k b9 hb9).new b o e))
        have hbX : ∀ b o, (some ⟨b9, 0, none⟩ : Option Addr) = some ⟨b, o, none⟩ → b ∉ [b5, b4] := fun b o e => by cases e; have := (K_c z.k b9 hb9).new _ _ rfl; simp; omega
        have hzW : u2.heap.size ≤ W.heap.size := Nat.le_trans (hS9.snap _ _ (.head _)).2.1 (hS9.snap _ _ (.head _)).2.2.1
        refine ci_block ?_
        refine ci_seq ?_
        refine ci_region hW9 hQ9 rfl ?_
        refine al_p (q_loadX rfl Tryz.isAgg81 (fun w9 hs => (hs.cellL l_b7 (by simp [ne_b7, nf_b7])).trans ((one9 hy_b7) 0 _ rfl))) (al_p (q_move rfl) (al_call Tryz.call22 (.cons rfl (.cons rfl .nil)) rfl rfl (fun w4 hs4 => ?_)))
        refine (count9_any (some ⟨b9, 0, none⟩) R.ld R.ld (clL M (bgL M C) zs (z.k : Int)) x _ (hCW.chg hs4.chg hbX) (by omega)).mono ?_
        rintro e u4 ⟨rfl, hb_4⟩
        refine ⟨_, rfl, hb_4, ?_⟩
        clear hs4
        refine al_p (q_assign rfl) (al_end (aq_then ?_))
        refine ci_seq ?_
        refine ci_region hW9 hQ9 rfl ?_
        refine al_p (q_move rfl) (al_p (q_load (i := 0) rfl rfl rfl Tryz.isAgg3) (al_p (q_gtr rfl rfl) (al_end (aq_then ?_))))
        refine ci_cond rfl (fun h3 => ?_) (fun h3 => ?_)
        · have hc9 : y.s.1 < (cntA M C zs (z.k : Int) x) := of_decide_eq_true h3
          refine ci_seq ?_
          refine ci_region hW9 hQ9 rfl ?_
          refine al_p (q_move rfl) (al_store1 (i := 0) rfl rfl rfl rfl Tryz.sizeOf3 .k0 .k0 rfl (al_end (aq_then ?_)))
          refine ci_draw 6 hW9 hQ9 rfl (by kernel_rfl) (by kernel_rfl) ?_
          refine ah_take 0 (fun w9 hs => hs) rfl rfl rfl (by kernel_rfl) (by kernel_rfl) (by kernel_rfl) (fun _ _ _ h => (hP9 _ _ _ h).elim) rfl (q_loadX rfl Tryz.isAgg3 (fun w9 hs => (hs.cellL l_b6 (by simp [ne_b6, nf_b6])).trans ((one9 hy_b6) 0 _ rfl))) (ah_take 1 (fun w9 hs => hs) rfl rfl rfl (by kernel_rfl) (by kernel_rfl) (by kernel_rfl) (fun _ _ _ h => (hP9 _ _ _ h).elim) rfl (q_move rfl) ?_)
          refine ah_take 2 (fun w9 hs => hs) rfl rfl rfl (by kernel_rfl) (by kernel_rfl) (by kernel_rfl) (fun _ _ _ h => (hP9 _ _ _ h).elim) rfl (q_loadX rfl Tryz.isAgg81 (fun w9 hs => (hs.cellL l_b7 (by simp [ne_b7, nf_b7])).trans ((one9 hy_b7) 0 _ rfl))) (ah_take 3 (fun w9 hs => hs) rfl rfl rfl (by kernel_rfl) (by kernel_rfl) (by kernel_rfl) (fun _ _ _ h => (hP9 _ _ _ h).elim) rfl (q_move rfl) (ah_one 4 rfl (by kernel_rfl) (fun hok1 hcl1 => ?_)))
          refine al_call Tryz.call23 (.cons rfl (.cons rfl .nil)) rfl rfl (fun w5 hs5 => ?_)
          have hz4 : W.heap.size ≤ w5.heap.size := hs5.chg.size
          refine (lying9_of sorted_ok (some ⟨b9, 0, none⟩) R.ld R.ld (clL M (bgL M C) zs (z.k : Int)) x _ (hCW.chg hs5.chg hbX) (by omega)).mono ?_
          rintro e u5 ⟨A_l, n_l, c_l, rfl, N_l, hb_5⟩
          refine ⟨_, rfl, hb_5, ?_⟩
          clear hs5
          refine al_end (ah_back hok1 hcl1 (fun w9 hs => (hs.fewer 1 rfl)) ?_)
          refine ah_take 5 (fun w9 hs => (hs.fewer 1 rfl)) rfl rfl rfl (by kernel_rfl) (by kernel_rfl) (by kernel_rfl) (fun _ _ _ h => (hP9 _ _ _ h).elim) rfl (q_build (.cons rfl (.cons rfl (.cons rfl .nil))) (cah_bl_apiBlame_0_1_2 _ _ _ rfl rfl rfl)) (ah_one 6 rfl (by kernel_rfl) (fun hok2 hcl2 => ?_))
          refine al_storeAll (i := 1) rfl rfl rfl rfl Tryz.sizeOf39 rfl rfl .k1 rfl (al_end (ah_last (by kernel_rfl) ?_))
          refine aq_inN ?_
          exact aq_sub (k9 _ ⟨y.k, ((cntA M C zs (z.k : Int) x), (z.k : Int), x), A_l, n_l, c_l, lyA M C zs ((cntA M C zs (z.k : Int) x), (z.k : Int), x), y.Ds, y.u⟩ (hy9.yes hg9 hc9 (cntA_nn M C zs _ _) rfl rfl (fun b o e => by have := N_l.new b o e; omega) N_l.le) (fun w9 hs => hs.newT (.head _) N_l)) trivial (fun w9 hs => hs)
        · have hc9 : ¬ y.s.1 < (cntA M C zs (z.k : Int) x) := of_decide_eq_false h3
          refine ci_skip ?_
          refine aq_inN ?_
          exact aq_sub (k9 _ y (hy9.no hg9 hc9) (fun w9 hs => hK9.chg hs.chg (fun b o e => by have := hy9.new b o e; simp; omega))) trivial (fun w9 hs => hs)
      · intro D9 u9 y a9 hF9 hK9 hS9 hU9 hDl9 hD9 hf9
        have hS7 : Sta _ _ [(b5, _), (b4, _), (b3, _), (b2, _), (b1, _)] _ := (hS9.tail 4 rfl).fewer 1 rfl
        have hS8 := hS7.snapNow u2.heap.size hlo2 (Nat.le_trans (hS9.snap _ _ (.head _)).2.1 (hS9.snap _ _ (.head _)).2.2.1) (low_of (by intro p hp; simp only [List.mem_cons, List.not_mem_nil, or_false] at hp; rcases hp with rfl | rfl | rfl | rfl | rfl <;> first | omega | (dsimp only; omega)))
        refine (?_ : AQ _ _ _ _ _) a9 u9 hf9 (hS8.withD _)
        refine aq_inN (aq_inN (aq_then (ac_region ?_)))
        refine al_p (q_add rfl rfl (by omega)) (al_p (q_move rfl) (al_end (aq_then ?_)))
        skip
        refine ci_round (⟨z.k + 1, y.s, y.A, y.n, y.c, y.zs, D9 :: z.Ds, u9⟩) rfl (by simp only; omega) (hF1.next hzl (cntA_nn M C zs) hF9 (by unfold triA; rw [clL_len, hld]; exact Nat.le_refl _) hK9 (Marks.snap hS9 (.head _) hF1.marks hF1.mlo) hD9 hDl9 (hU9 _ _ (.head _)) (hS9.snap _ _ (.head _)).2.1) ⟨rfl, rfl, rfl, rfl, rfl, rfl, rfl, trivial⟩ (fun w9 hs => hs)
    · have hze : z.k = Q.lc := by have := of_decide_eq_false h2; have := hF1.k; omega
      refine ac_exit (aq_thenE (aq_thenE (aq_hit (aq_then ?_))))
      refine ac_seq (ac_region ?_)
      refine al_p (q_loadAll (i := 1) rfl rfl Tryz.isAgg39 Tryz.sizeOf39 rfl) (al_storeAll (i := 2) rfl rfl rfl rfl Tryz.sizeOf39 rfl rfl .k2 rfl (al_p (q_assign rfl) (al_end (aq_then ?_))))
      refine ac_ret (retMS (m := z.u.heap.size) Tryz.results8 (.agg (i := 2) rfl rfl Tryz.isAgg39 Tryz.sizeOf39 rfl (.tmp rfl .nil)) .two (fun D hD => Nat.le_trans hlo2 (hF1.mlo D hD)) rfl (fun w9 hs => Marks.snap hs (.head _) hF1.marks hF1.mlo) (fun w9 w8 hs hm9 hc9 => ?_))
      obtain ⟨e1, e2⟩ := acc_end he hF1 (by rw [qc]; exact hze)
      rw [← e1, ← e2]
      unfold candE; rw [if_pos he]
      exact ⟨z.A, z.n, z.c, rfl, ⟨IsT.mv (fun _ => by simp [intCells]) (hs.isT (.head _) hF1.list (fun b o e => Or.inl (hF1.new b o e))) hm9 (fun b o _ => by simp), fun b o e => by have := hF1.new b o e; omega, hF1.le⟩, below_marks hs.below hc9 (fun D hD => by have := hF1.mlo D hD; omega)⟩
end
section
open Go.RowKit
theorem exc_len {tog : Nat → Nat → Bool} {n a b : Nat} (hn : n ≤ 100) (ha : a ≤ n) (hb : b ≤ n) : (excU tog n a ++ excR tog a b).length ≤ 20000 := by
  have h1 := excU_len tog n a
  have h2 := excR_len tog a b
  have h3 := Nat.mul_le_mul (Nat.le_trans ha hn) hn
  rw [List.length_append]; omega
theorem excU_len9 {tog : Nat → Nat → Bool} {n a : Nat} (hn : n ≤ 100) (ha : a ≤ n) : (excU tog n a).length ≤ 10000 := by
  have h1 := excU_len tog n a
  have h3 := Nat.mul_le_mul (Nat.le_trans ha hn) hn
  omega
theorem exc_yes {tog : Nat → Nat → Bool} {n a b : Nat} (hab : a < b) (h : tog a b = false) : excU tog n a ++ excR tog a (b + 1) = (excU tog n a ++ excR tog a b) ++ [(a, b)] := by rw [excR_yes hab h, List.append_assoc]
theorem exc_no {tog : Nat → Nat → Bool} {n a b : Nat} (h : tog a b = true) : excU tog n a ++ excR tog a (b + 1) = excU tog n a ++ excR tog a b := by rw [excR_no h]
theorem exc_all {tog : Nat → Nat → Bool} {n a b : Nat} (h : b = n) : excU tog n (a + 1) = excU tog n a ++ excR tog a b := by rw [excU_succ, h]
set_option maxRecDepth 100000 in
theorem both_any (F : Option Addr) (n cf a b : Nat) (zs : List SpanD) (w : World) (hF : IsT 2 SpanD.cells w F n zs) (ha : a < n) (hb : b < n) : Calls Tryz.prog 31 #[(.slice F n cf), (.int .i64 (a : Int)), (.int .i64 (b : Int))] w (Ret (.bool (bothB zs a b)) w) := by
  have hl := hF.1
  obtain ⟨b11, o11, hA1, hlt1, hget1⟩ := hF.2 (by omega)
  have hx1 := getD_get (l := zs) (d := ⟨0, 0⟩) (k := a) (by omega)
  obtain ⟨b21, o21, hA2, hlt2, hget2⟩ := hF.2 (by omega)
  have hx2 := getD_get (l := zs) (d := ⟨0, 0⟩) (k := b) (by omega)
  refine calls_ax (vs := [(.slice F n cf), (.int .i64 (a : Int)), (.int .i64 (b : Int))]) Tryz.func31 rfl rfl ?_
  refine ac_seq (ac_region ?_)
  refine al_p (q_assign rfl) (al_end (aq_then ?_))
  refine ac_seq (ac_draw 14 (by kernel_rfl) (by kernel_rfl) ?_)
  refine ah_t 0 (fun w9 hs => hs) rfl rfl (by kernel_rfl) (q_move rfl) (ah_t 1 (fun w9 hs => hs) rfl rfl (by kernel_rfl) (q_move rfl) ?_)
  refine ah_t 2 (fun w9 hs => hs) rfl rfl (by kernel_rfl) (q_indexAddrA (i := a) (o11 + a * 2 + 0) hA1 rfl rfl rfl (by omega) Tryz.runUnderlying81 Tryz.sizeOf67 rfl) (ah_t 3 (fun w9 hs => hs) rfl rfl (by kernel_rfl) (q_loadXs (SpanD.cells (zs.getD a ⟨0, 0⟩)) rfl Tryz.isAgg67 Tryz.sizeOf67 (fun w9 hs j9 v9 h9 => by rw [addr_add]; exact (hs.below.cell (p := ⟨_, _, none⟩) hlt1).trans ((hget1 a _ hx1) j9 v9 h9)) rfl) (ah_t 4 (fun w9 hs => hs) rfl rfl (by kernel_rfl) (q_move rfl) (ah_t 5 (fun w9 hs => hs) rfl rfl (by kernel_rfl) (q_move rfl) ?_)))
  refine ah_t 6 (fun w9 hs => hs) rfl rfl (by kernel_rfl) (q_indexAddrA (i := b) (o21 + b * 2 + 0) hA2 rfl rfl rfl (by omega) Tryz.runUnderlying81 Tryz.sizeOf67 rfl) (ah_t 7 (fun w9 hs => hs) rfl rfl (by kernel_rfl) (q_loadXs (SpanD.cells (zs.getD b ⟨0, 0⟩)) rfl Tryz.isAgg67 Tryz.sizeOf67 (fun w9 hs j9 v9 h9 => by rw [addr_add]; exact (hs.below.cell (p := ⟨_, _, none⟩) hlt2).trans ((hget2 b _ hx2) j9 v9 h9)) rfl) ?_)
  refine ah_two 8 12 rfl rfl  (by kernel_rfl) (fun hok1 hcl1 => ?_) (fun hok1 hcl1 => ?_)
  · refine al_call Tryz.call61 (.cons rfl (.cons rfl .nil)) rfl rfl (fun w1 hs1 => ?_)
    refine (meet9_any (zs.getD a ⟨0, 0⟩).lo (zs.getD a ⟨0, 0⟩).hi (zs.getD b ⟨0, 0⟩).lo (zs.getD b ⟨0, 0⟩).hi _).mono ?_
    rintro e u1 ⟨rfl, hb_1⟩
    refine ⟨_, rfl, hb_1, ?_⟩
    clear hs1
    refine al_end (ah_back hok1 hcl1 (fun w9 hs => (hs.fewer 1 rfl)) ?_)
    refine ah_t 9 (fun w9 hs => (hs.fewer 1 rfl)) rfl rfl (by kernel_rfl) (q_move rfl) (ah_t 10 (fun w9 hs => (hs.fewer 1 rfl)) rfl rfl (by kernel_rfl) (q_extract rfl rfl) (ah_t 11 (fun w9 hs => (hs.fewer 1 rfl)) rfl rfl (by kernel_rfl) (q_extract rfl rfl) (ah_one 12 rfl (by kernel_rfl) (fun hok2 hcl2 => ?_))))
    refine al_new (fun b => .pointer (some ⟨b, 0, none⟩)) (r_alloc Tryz.zeroValue67 rfl) rfl rfl rfl ?_
    intro b1
    refine al_end (ah_back hok2 hcl2 (fun w9 hs => ((hs.fewer 1 rfl).tail 1 rfl)) ?_)
    refine ah_one 13 rfl (by kernel_rfl) (fun hok3 hcl3 => ?_)
    refine al_storeAll (i := 0) rfl rfl rfl rfl Tryz.sizeOf67 rfl rfl .k0 rfl (al_end (ah_back hok3 hcl3 (fun w9 hs => ((hs.fewer 1 rfl).tail 1 rfl)) ?_))
    refine ah_one 14 rfl (by kernel_rfl) (fun hok4 hcl4 => ?_)
    refine al_p (q_assign rfl) (al_end (ah_last (by kernel_rfl) ?_))
    refine aq_then (ac_seq (ac_region ?_))
    refine al_p (q_move rfl) (al_p (q_eql rfl rfl) (al_p (q_assign rfl) (al_end (aq_then ?_))))
    refine ac_ret (ret1 Tryz.results31 rfl (fun w9 hs => ?_))
    exact ⟨rfl, hs.below⟩
  · refine al_new (fun b => .pointer (some ⟨b, 0, none⟩)) (r_alloc Tryz.zeroValue67 rfl) rfl rfl rfl ?_
    intro b2
    refine al_end (ah_back hok1 hcl1 (fun w9 hs => (hs.tail 1 rfl)) ?_)
    refine ah_one 8 rfl (by kernel_rfl) (fun hok5 hcl5 => ?_)
    refine al_call Tryz.call61 (.cons rfl (.cons rfl .nil)) rfl rfl (fun w2 hs2 => ?_)
    refine (meet9_any (zs.getD a ⟨0, 0⟩).lo (zs.getD a ⟨0, 0⟩).hi (zs.getD b ⟨0, 0⟩).lo (zs.getD b ⟨0, 0⟩).hi _).mono ?_
    rintro e u2 ⟨rfl, hb_2⟩
    refine ⟨_, rfl, hb_2, ?_⟩
    clear hs2
    refine al_end (ah_back hok5 hcl5 (fun w9 hs => ((hs.fewer 1 rfl).tail 1 rfl)) ?_)
    refine ah_t 9 (fun w9 hs => ((hs.fewer 1 rfl).tail 1 rfl)) rfl rfl (by kernel_rfl) (q_move rfl) (ah_t 10 (fun w9 hs => ((hs.fewer 1 rfl).tail 1 rfl)) rfl rfl (by kernel_rfl) (q_extract rfl rfl) (ah_t 11 (fun w9 hs => ((hs.fewer 1 rfl).tail 1 rfl)) rfl rfl (by kernel_rfl) (q_extract rfl rfl) (ah_one 13 rfl (by kernel_rfl) (fun hok6 hcl6 => ?_))))
    refine al_storeAll (i := 0) rfl rfl rfl rfl Tryz.sizeOf67 rfl rfl .k0 rfl (al_end (ah_back hok6 hcl6 (fun w9 hs => ((hs.fewer 1 rfl).tail 1 rfl)) ?_))
    refine ah_one 14 rfl (by kernel_rfl) (fun hok7 hcl7 => ?_)
    refine al_p (q_assign rfl) (al_end (ah_last (by kernel_rfl) ?_))
    refine aq_then (ac_seq (ac_region ?_))
    refine al_p (q_move rfl) (al_p (q_eql rfl rfl) (al_p (q_assign rfl) (al_end (aq_then ?_))))
    refine ac_ret (ret1 Tryz.results31 rfl (fun w9 hs => ?_))
    exact ⟨rfl, hs.below⟩
theorem caj_bl_x47_0_1 (a0 a1 : Value) (ha0 : a0.oneCell' = true) (ha1 : a1.oneCell' = true) : ∀ w, (Instr.build 47 #[(0, a0), (1, a1)]).run Tryz.prog w = .ok (.agg #[a0, a1]) w := by
  have ea0 : a0.cells = #[a0] := cells_one ha0
  have ea1 : a1.cells = #[a1] := cells_one ha1
  intro w; simp [Instr.build, Instr.fill, cells_agg, Tryz.runUnderlying47, Tryz.zeroValue47, Tryz.sizeOf3, ea0, ea1]
theorem caj_bs_2int_1_0_ (c0_0 c0_1 : Value) : ∀ w, (Instr.buildSlice 44 1 #[(0, .agg #[c0_0, c0_1])]).run Tryz.prog w = .ok (.slice (some ⟨w.heap.size, 0, none⟩) 1 1) (w.alloc (.cells [c0_0, c0_1].toArray 47)) := by
  intro w; (simp [Instr.buildSlice, Instr.fill, cells_agg, newRow, Tryz.runUnderlying44, Tryz.zeroValue47, Tryz.sizeOf47] <;> (rw [(by kernel_rfl : Array.range 2 = #[0, 1])]; simp [Value.cells]))
set_option maxRecDepth 100000 in
theorem cexcl9_any (R : MachR) (M : MachD) (Q : CurR) (C : CurD) (F : Option Addr) (nf cf : Nat) (zs : List SpanD) (w : World) (hM : IsM w R M) (hC : IsC w Q C) (hF : IsT 2 SpanD.cells w F nf zs) (hn : nf ≤ 1000000000000000) : Calls Tryz.prog 11 #[(.agg (machCells R M)), Q.v, (.slice F nf cf)] w (OutT 2 pairN w (candE M C zs) (excZ M C zs)) := by
  refine calls_ax (vs := [(.agg (machCells R M)), Q.v, (.slice F nf cf)]) Tryz.func11 rfl rfl ?_
  refine ac_seq (ac_region ?_)
  refine al_new (fun b => .pointer (some ⟨b, 0, none⟩)) (r_box rfl rfl) rfl rfl rfl ?_
  intro b1
  refine al_new (fun b => .pointer (some ⟨b, 0, none⟩)) (r_box rfl rfl) rfl rfl rfl ?_
  intro b2
  refine al_p (q_assign rfl) (al_p (q_assign rfl) (al_end (aq_then ?_)))
  refine ac_seq (ac_seq (ac_region ?_))
  refine al_p (q_loadAll (i := 1) rfl rfl Tryz.isAgg29 Tryz.sizeOf29 rfl) (al_p (q_loadAll (i := 0) rfl rfl Tryz.isAgg32 Tryz.sizeOf32 rfl) (al_p (q_move rfl) (al_call Tryz.call19 (.cons rfl (.cons rfl (.cons rfl .nil))) rfl rfl (fun w1 hs1 => ?_))))
  refine (explainable_any R M Q C F nf cf zs _ (hM.below hs1.below) (hC.below hs1.below) (hF.below hs1.below) hn).mono ?_
  rintro e u1 ⟨rfl, hb_1⟩
  refine ⟨_, rfl, hb_1, ?_⟩
  clear hs1
  refine al_p (q_not rfl) (al_end (aq_then ?_))
  refine ac_cond rfl (fun h1 => ?_) (fun h1 => ?_)
  · have hE : explB M C zs = false := by simpa using h1
    refine ac_seq (ac_region ?_)
    refine al_p (q_assign rfl) (al_p (q_assign rfl) (al_end (aq_then ?_)))
    refine ac_ret (aq_thenR (ret2 Tryz.results11 rfl rfl (fun w9 hs => ?_)))
    unfold candE excZ; rw [if_neg (by rw [hE]; decide), if_neg (by rw [hE]; decide)]; exact OutT.nil hs.below
  · have he : explB M C zs = true := by simpa using h1
    have hexp := explB_iff.1 he
    obtain ⟨hv, hzl, hzs⟩ := hexp
    have hvc := fit2_iff.2 hv
    have hs0 := sound_of hv.check
    have hg := cells_fine hs0.grid
    have hsn := hs0.sensors.1
    have hld := hM.sensors.1
    have hnz := hF.1
    have hcp := hv.plasma.1
    have qc := hC.plasma.1
    have hkc := hC.kc
    refine ac_skip (aq_then (ac_seq (ac_region ?_)))
    refine al_p (q_loadAll (i := 1) rfl rfl Tryz.isAgg29 Tryz.sizeOf29 rfl) (al_p (q_loadAll (i := 0) rfl rfl Tryz.isAgg32 Tryz.sizeOf32 rfl) (al_p (q_move rfl) (al_call Tryz.call20 (.cons rfl (.cons rfl (.cons rfl .nil))) rfl rfl (fun w2 hs2 => ?_))))
    refine (claims9_any R M Q C F nf cf zs _ (hM.below hs2.below) (hC.below hs2.below) (hF.below hs2.below) hn he).mono ?_
    rintro e u2 ⟨p_c, L_c, rfl, N_c, K_c, hb_2⟩
    refine ⟨_, rfl, hb_2, ?_⟩
    clear hs2
    refine al_p (q_assign rfl) (al_end (aq_then ?_))
    refine ac_seq (ac_region ?_)
    refine al_p (q_assign rfl) (al_end (aq_then ?_))
    refine ac_seq (ac_seq (ac_region ?_))
    refine al_p (q_fieldAddr 9 rfl Tryz.runUnderlying29 rfl Tryz.sizeOf27 (by decide) rfl) (al_p (q_load (i := 1) rfl rfl rfl Tryz.isAgg27) (al_p (q_lenS rfl Tryz.runUnderlying27) (al_p (q_move rfl) (al_end (aq_then ?_)))))
    refine ac_block ?_
    refine ac_loop (β := Nat × Gr × List Value) (fun x => x.1 ≤ R.ld ∧ gok x.2.1 (excU (fun a b => togU M C zs a b C.plasma.length) M.sensors.length x.1).length 2 x.2.2 ∧ x.2.2 = (excU (fun a b => togU M C zs a b C.plasma.length) M.sensors.length x.1).flatMap pairN) (fun x => [(3, (.pointer (some ⟨b1, 0, none⟩))), (6, (.slice none 0 0)), (7, (.int .i64 0)), (8, (.slice (some ⟨p_c, 0, none⟩) Q.lc Q.lc)), (9, (.slice (gA x.2.1) (excU (fun a b => togU M C zs a b C.plasma.length) M.sensors.length x.1).length (gC x.2.1))), (23, (.int .i64 (R.ld : Int))), (24, (.int .i64 (x.1 : Int)))]) (fun _ => _) (fun x => (b2, _) :: (b1, _) :: (gt x.2.1 x.2.2 ++ ([]))) (fun x => R.ld - x.1) (0, none, []) ⟨by simp, gok.none 2, rfl⟩ ⟨rfl, rfl, rfl, rfl, rfl, rfl, rfl, trivial⟩ (fun w9 hs => (by rw [show gt none [] = [] from rfl, List.nil_append]; exact hs)) (fun x hF1 => ?_)
    obtain ⟨hxn, hgk, hcs⟩ := hF1
    have htl := excU_len9 (tog := (fun a b => togU M C zs a b C.plasma.length)) (n := M.sensors.length) (a := x.1) (by omega) (by omega)
    refine ac_seq (ac_region ?_)
    refine al_p (q_lss rfl rfl) (al_end (aq_then ?_))
    refine ac_seq ?_
    refine ac_cond rfl (fun h2 => ?_) (fun h2 => ?_)
    · have hxl : x.1 < R.ld := by have := of_decide_eq_true h2; omega
      refine ac_skip (aq_then (ac_seq (ac_block (ac_seq (ac_region ?_)))))
      refine al_p (q_move rfl) (al_new (fun b => .pointer (some ⟨b, 0, none⟩)) (r_alloc Tryz.zeroValue3 rfl) rfl rfl rfl ?_)
      intro b3
      refine al_store1 (i := 0) rfl rfl rfl rfl Tryz.sizeOf3 .k0 .k0 rfl (al_end (aq_then ?_))
      refine ac_seq (ac_region ?_)
      refine al_p (q_load (i := 0) rfl rfl rfl Tryz.isAgg3) ?_
      refine al_p (q_add rfl rfl (by omega)) (al_new (fun b => .pointer (some ⟨b, 0, none⟩)) (r_alloc Tryz.zeroValue3 rfl) rfl rfl rfl ?_)
      intro b4
      refine al_store1 (i := 0) rfl rfl rfl rfl Tryz.sizeOf3 .k0 .k0 rfl (al_end (aq_then ?_))
      refine ac_block ?_
      refine ac_loop (β := Nat × Nat × Gr × List Value) (fun y => x.1 < y.1 ∧ y.1 ≤ R.ld ∧ gok y.2.2.1 (excU (fun a b => togU M C zs a b C.plasma.length) M.sensors.length x.1 ++ excR (fun a b => togU M C zs a b C.plasma.length) x.1 y.1).length 2 y.2.2.2 ∧ y.2.2.2 = (excU (fun a b => togU M C zs a b C.plasma.length) M.sensors.length x.1 ++ excR (fun a b => togU M C zs a b C.plasma.length) x.1 y.1).flatMap pairN) (fun y => [(3, (.pointer (some ⟨b1, 0, none⟩))), (6, (.slice none 0 0)), (7, (.int .i64 0)), (8, (.slice (some ⟨p_c, 0, none⟩) Q.lc Q.lc)), (9, (.slice (gA y.2.2.1) (excU (fun a b => togU M C zs a b C.plasma.length) M.sensors.length x.1 ++ excR (fun a b => togU M C zs a b C.plasma.length) x.1 y.1).length (gC y.2.2.1))), (10, (.pointer (some ⟨b3, 0, none⟩))), (11, (.pointer (some ⟨y.2.1, 0, none⟩))), (23, (.int .i64 (R.ld : Int))), (24, (.int .i64 (x.1 : Int))), (26, (.int .i64 (x.1 : Int))), (27, (.int .i64 (x.1 : Int)))]) (fun _ => _) (fun y => (y.2.1, .cells [.int .i64 (y.1 : Int)]) :: (b3, _) :: (b2, _) :: (b1, _) :: (gt y.2.2.1 y.2.2.2 ++ ([]))) (fun y => R.ld - y.1) (x.1 + 1, b4, x.2.1, x.2.2) ⟨by simp only; omega, by simp only; omega, by simp only; rw [excR_start, List.append_nil]; exact hgk, by simp only; rw [excR_start, List.append_nil]; exact hcs⟩ ⟨rfl, rfl, rfl, rfl, (by simp only; rw [excR_start, List.append_nil]; rfl), rfl, rfl, rfl, rfl, rfl, rfl, trivial⟩ (fun w9 hs => hs) (fun y hF2 => ?_)
      obtain ⟨hxy, hyn, hgk2, hcs2⟩ := hF2
      have htl2 := exc_len (tog := (fun a b => togU M C zs a b C.plasma.length)) (n := M.sensors.length) (a := x.1) (b := y.1) (by omega) (by omega) (by omega)
      refine ac_seq (ac_seq (ac_region ?_))
      refine al_p (q_load (i := 0) rfl rfl rfl Tryz.isAgg3) ?_
      refine al_p (q_fieldAddr 9 rfl Tryz.runUnderlying29 rfl Tryz.sizeOf27 (by decide) rfl) (al_p (q_load (i := 3) rfl rfl rfl Tryz.isAgg27) (al_p (q_lenS rfl Tryz.runUnderlying27) (al_p (q_lss rfl rfl) (al_end (aq_then ?_)))))
      refine ac_cond rfl (fun h3 => ?_) (fun h3 => ?_)
      · have hyl : y.1 < R.ld := by have := of_decide_eq_true h3; omega
        refine ac_skip (aq_then (ac_seq (ac_block (ac_seq (ac_region ?_)))))
        refine al_p (q_move rfl) (al_p (q_makeFunc _ _ .nil (.cons rfl (.cons rfl .nil))) (al_inl Tryz.call29 (.cons rfl (.cons rfl .nil)) rfl rfl Tryz.func29 rfl rfl ?_))
        refine ac_seq (ac_region ?_)
        refine al_p (q_assign rfl) (al_end (aq_then ?_))
        refine ac_seq (ac_region ?_)
        refine al_p (q_move rfl) (al_p (q_move rfl) (al_inl Tryz.call60 (.cons rfl (.cons rfl .nil)) rfl rfl Tryz.func60 rfl rfl ?_))
        refine ac_seq (ac_region ?_)
        refine al_p (q_assign rfl) (al_end (aq_then ?_))
        refine ac_seq (ac_seq (ac_region ?_))
        refine al_p (q_move rfl) (al_p (q_lenS rfl Tryz.runUnderlying79) (al_p (q_move rfl) (al_end (aq_then ?_))))
        refine ac_block (ac_loop (β := Nat) (fun j => j ≤ Q.lc ∧ togU M C zs x.1 y.1 j = false) (fun j => [(0, (.slice (some ⟨p_c, 0, none⟩) Q.lc Q.lc)), (1, (.func (.func 30) #[] #[.pointer (some ⟨b3, 0, none⟩), .pointer (some ⟨y.2.1, 0, none⟩)])), (4, (.int .i64 0)), (7, (.int .i64 (Q.lc : Int))), (8, (.int .i64 (j : Int)))]) (fun _ => _) (fun j => (y.2.1, _) :: (b3, _) :: (b2, _) :: (b1, _) :: (gt y.2.2.1 y.2.2.2 ++ ([]))) (fun j => Q.lc - j) 0 ⟨by omega, rfl⟩ ⟨rfl, rfl, rfl, rfl, rfl, trivial⟩ (fun w9 hs => hs) (fun j hF3 => ?_))
        obtain ⟨hjn, hjt⟩ := hF3
        refine ac_seq (ac_region ?_)
        refine al_p (q_lss rfl rfl) (al_end (aq_then ?_))
        refine ac_seq ?_
        refine ac_cond rfl (fun h4 => ?_) (fun h4 => ?_)
        · have hjl : j < Q.lc := by have := of_decide_eq_true h4; omega
          obtain ⟨b9, hb9⟩ : ∃ b9, L_c[j]? = some b9 := ⟨_, List.getElem?_eq_getElem (by rw [N_c.isT.1]; exact hjl)⟩
          refine ac_skip (aq_then (ac_seq (ac_block (ac_seq (ac_region ?_)))))
          refine al_p (q_move rfl) (al_p (q_assign rfl) (al_end (aq_then ?_)))
          refine ac_seq (ac_region ?_)
          refine al_p (q_move rfl) (al_p (q_move rfl) (al_p (q_move rfl) ?_))
          refine al_p (q_indexAddrA (i := j) (0 + j * 1 + 0) rfl rfl rfl rfl (by omega) Tryz.runUnderlying79 Tryz.sizeOf81 rfl) ?_
          refine al_p (q_loadX rfl Tryz.isAgg81 (fun w9 hs => (hs.cellOf (.head _) (N_c.new _ _ rfl) (isT_lt N_c.isT (by omega)) (isT_cell N_c.isT hb9)))) (al_inlV (fi := []) (ca := [(.pointer (some ⟨b3, 0, none⟩)), (.pointer (some ⟨y.2.1, 0, none⟩))]) rfl Tryz.call30 (.cons rfl .nil) rfl rfl Tryz.func30 rfl rfl ?_)
          refine ac_seq (ac_region ?_)
          refine al_p (q_assign rfl) (al_end (aq_then ?_))
          refine ac_seq (ac_region ?_)
          refine al_p (q_move rfl) (al_p (q_load (i := 1) rfl rfl rfl Tryz.isAgg3) (al_p (q_load (i := 0) rfl rfl rfl Tryz.isAgg3) (al_call Tryz.call31 (.cons rfl (.cons rfl (.cons rfl .nil))) rfl rfl (fun w3 hs3 => ?_))))
          refine (both_any (some ⟨b9, 0, none⟩) R.ld R.ld x.1 y.1 (clL M (bgL M C) zs (j : Int)) _ (hs3.isT (.head _) (K_c j b9 hb9).isT (fun b o e => Or.inl ((K_c j b9 hb9).new b o e))) (by omega) (by omega)).mono ?_
          rintro e u3 ⟨rfl, hb_3⟩
          refine ⟨_, rfl, hb_3, ?_⟩
          clear hs3
          refine al_p (q_assign rfl) (al_end (aq_then ?_))
          refine ac_ret (retI Tryz.results30 (.tmp rfl .nil) .one ?_)
          refine al_end (aq_then ?_)
          refine ac_cond rfl (fun h5 => ?_) (fun h5 => ?_)
          · have hbo : bothB (clL M (bgL M C) zs (j : Int)) x.1 y.1 = true := h5
            have htg : togU M C zs x.1 y.1 C.plasma.length = true := togU_mono (k := j + 1) (by rw [togU_succ, hbo, Bool.or_true]) (by omega)
            have hct := exc_no (tog := (fun a b => togU M C zs a b C.plasma.length)) (n := M.sensors.length) (a := x.1) (b := y.1) htg
            refine ac_seq (ac_region ?_)
            refine al_p (q_move rfl) (al_p (q_assign rfl) (al_end (aq_then ?_)))
            refine ac_ret (aq_inR (aq_thenR (aq_thenR (aq_inR ?_))))
            refine aq_thenR (retI Tryz.results60 (.tmp rfl .nil) .one ?_)
            refine al_p (q_geq rfl rfl) (al_p (q_assign rfl) (al_end (aq_then ?_)))
            refine ac_ret (retI Tryz.results29 (.tmp rfl .nil) .one ?_)
            refine al_p (q_not rfl) (al_end (aq_then ?_))
            refine ac_cond rfl (fun h6 => ?_) (fun h6 => ?_)
            · exfalso; first | (simp at h6; done) | (simp at h6; omega)
            · skip
              refine ac_skip (aq_inN (aq_then (ac_seq (ac_seq (ac_region ?_)))))
              refine al_p (q_load (i := 0) rfl rfl rfl Tryz.isAgg3) (al_end (aq_then ?_))
              refine ac_region (al_new (fun b => .pointer (some ⟨b, 0, none⟩)) (r_alloc Tryz.zeroValue3 rfl) rfl rfl rfl ?_)
              intro b5
              refine al_store1 (i := 0) rfl rfl rfl rfl Tryz.sizeOf3 .k0 .k0 rfl (al_end (aq_then ?_))
              refine aq_pm (.cons (.there (.here)) (.refl)) ?_
              refine ac_region (al_p (q_load (i := 1) rfl rfl rfl Tryz.isAgg3) ?_)
              refine al_p (q_add rfl rfl (by omega)) (al_store1 (i := 1) rfl rfl rfl rfl Tryz.sizeOf3 .k0 .k1 rfl (al_end (aq_then ?_)))
              skip
              refine aq_round ((y.1 + 1, b5, y.2.2.1, y.2.2.2)) (by simp only; omega) ⟨by simp only; omega, by simp only; omega, by simp only; rw [hct]; exact hgk2, by simp only; rw [hct]; exact hcs2⟩ ⟨rfl, rfl, rfl, rfl, (by simp only; rw [hct]; first | rfl | (rw [len_snoc]; rfl)), rfl, rfl, rfl, rfl, rfl, rfl, trivial⟩ (fun w9 hs => ((hs.fewer 1 rfl).tail 1 rfl))
          · have hbo : bothB (clL M (bgL M C) zs (j : Int)) x.1 y.1 = false := h5
            refine ac_skip (aq_inN (aq_then (ac_region ?_)))
            refine al_p (q_add rfl rfl (by omega)) (al_p (q_move rfl) (al_end (aq_then ?_)))
            skip
            refine aq_round (j + 1) (by omega) ⟨by omega, by rw [togU_succ, hjt, hbo]; rfl⟩ ⟨rfl, rfl, rfl, rfl, rfl, trivial⟩ (fun w9 hs => (hs.fewer 1 rfl))
        · have hje : j = Q.lc := by have := of_decide_eq_false h4; omega
          have htg : togU M C zs x.1 y.1 C.plasma.length = false := by rw [show C.plasma.length = j by omega]; exact hjt
          have hct := exc_yes (tog := (fun a b => togU M C zs a b C.plasma.length)) (n := M.sensors.length) (a := x.1) (b := y.1) hxy htg
          refine ac_exit (aq_thenE (aq_thenE (aq_hit (aq_then ?_))))
          refine ac_seq (ac_region ?_)
          refine al_p (q_assign rfl) (al_end (aq_then ?_))
          refine ac_ret (retI Tryz.results60 (.tmp rfl .nil) .one ?_)
          refine al_p (q_geq rfl rfl) (al_p (q_assign rfl) (al_end (aq_then ?_)))
          refine aq_keepL [4] (.cons rfl .nil) ?_
          refine ac_ret (retI Tryz.results29 (.tmp rfl .nil) .one ?_)
          refine al_p (q_not rfl) (al_end (aq_then ?_))
          refine ac_cond rfl (fun h7 => ?_) (fun h7 => ?_)
          · skip
            refine ac_region (al_p (q_move rfl) (al_p (q_load (i := 1) rfl rfl rfl Tryz.isAgg3) (al_p (q_load (i := 0) rfl rfl rfl Tryz.isAgg3) (al_p (q_build (.cons rfl (.cons rfl .nil)) (caj_bl_x47_0_1 _ _ rfl rfl)) ?_))))
            refine al_new (fun b => .slice (some ⟨b, 0, none⟩) 1 1) (r_buildSlice (.cons rfl .nil) (caj_bs_2int_1_0_ _ _)) rfl rfl rfl ?_
            intro b6
            refine al_grow (z := 2) (bytes := 16) (zv := (.agg #[.int .i64 0, .int .i64 0])) (o := y.2.2.1) (cs := y.2.2.2) (vs := [.int .i64 (x.1 : Int), .int .i64 (y.1 : Int)]) rfl rfl (.s (.s (.s (.s (.s (.z)))))) hgk2 (Sor.box (j := 0) rfl rfl rfl) Tryz.underlying44 (by kernel_rfl) rfl (by omega) (by decide) rfl rfl (fun o_1 g_1 => ?_)
            refine ⟨_, (.s (.s (.s (.s (.s (.z)))))), ?_⟩
            refine al_p (q_assign rfl) (al_end (aq_inN (aq_then (ac_seq ?_))))
            refine ac_seq (ac_region ?_)
            refine al_p (q_load (i := 1) rfl rfl rfl Tryz.isAgg3) (al_end (aq_then ?_))
            refine ac_region (al_new (fun b => .pointer (some ⟨b, 0, none⟩)) (r_alloc Tryz.zeroValue3 rfl) rfl rfl rfl ?_)
            intro b7
            refine al_store1 (i := 0) rfl rfl rfl rfl Tryz.sizeOf3 .k0 .k0 rfl (al_end (aq_then ?_))
            refine aq_pm (.cons (.there (.here)) ( .cons (.there (.here)) (.refl))) ?_
            refine ac_region (al_p (q_load (i := 2) rfl rfl rfl Tryz.isAgg3) ?_)
            refine al_p (q_add rfl rfl (by omega)) (al_store1 (i := 2) rfl rfl rfl rfl Tryz.sizeOf3 .k0 .k2 rfl (al_end (aq_then ?_)))
            skip
            refine aq_round ((y.1 + 1, b7, o_1, (y.2.2.2 ++ [.int .i64 (x.1 : Int), .int .i64 (y.1 : Int)]))) (by simp only; omega) ⟨by simp only; omega, by simp only; omega, by simp only; rw [hct, List.length_append]; exact g_1, by simp only; rw [hct, hcs2]; exact (flat_snoc pairN _ (x.1, y.1)).symm⟩ ⟨rfl, rfl, rfl, rfl, (by simp only; rw [hct]; first | rfl | (rw [len_snoc]; rfl)), rfl, rfl, rfl, rfl, rfl, rfl, trivial⟩ (fun w9 hs => (hs.tail 2 rfl))
          · exfalso; first | (simp at h7; done) | (simp at h7; omega)
      · have hye : y.1 = M.sensors.length := by have := of_decide_eq_false h3; omega
        refine ac_exit (aq_thenE (aq_thenE (aq_hit (aq_inN ?_))))
        refine aq_then (ac_region ?_)
        refine al_p (q_add rfl rfl (by omega)) (al_p (q_move rfl) (al_end (aq_then ?_)))
        skip
        refine aq_round ((x.1 + 1, y.2.2.1, y.2.2.2)) (by simp only; omega) ⟨by simp only; omega, by simp only; rw [exc_all (b := y.1) (by omega)]; exact hgk2, by simp only; rw [exc_all (b := y.1) (by omega)]; exact hcs2⟩ ⟨rfl, rfl, rfl, rfl, (by simp only; rw [exc_all (b := y.1) (by omega)]; rfl), rfl, rfl, trivial⟩ (fun w9 hs => (hs.tail 2 rfl))
    · have hxe : x.1 = M.sensors.length := by have := of_decide_eq_false h2; omega
      refine ac_exit (aq_thenE (aq_thenE (aq_hit (aq_then ?_))))
      refine ac_seq (ac_region ?_)
      refine al_p (q_move rfl) (al_p (q_assign rfl) (al_p (q_assign rfl) (al_end (aq_then ?_))))
      refine ac_ret (ret2 Tryz.results11 rfl rfl (fun w9 hs => ?_))
      have hL : excZ M C zs = (excU (fun a b => togU M C zs a b C.plasma.length) M.sensors.length x.1) := by unfold excZ; rw [if_pos he, hxe]
      unfold candE; rw [if_pos he, hL]; exact OutT.ok (hs.grown (enc := pairN) (o := x.2.1) (cs := x.2.2) (zs := (excU (fun a b => togU M C zs a b C.plasma.length) M.sensors.length x.1)) (fun _ => rfl) (fun y hy => by simp [hy]) hgk hcs.symm rfl) hs.below
end
end Go.Proofs.YthggkidiidnaoaaGreatDoor
