import Derived.Test.YtogcjgjhmlifgaaGreatLBG
import Derived.Test.YtogcjgjhmlifgaaGreatRows
import Derived.KernelRfl
import Derived.Laws.StructEq
namespace Go.Proofs.YtogcjgjhmlifgaaGreat
set_option linter.unusedVariables false
set_option linter.unusedSimpArgs false
section
open Go.RowKit
def mayB (M : MachD) (C : CurD) (xs : List SpanD) (k : Nat) : Bool := decide ((bdS M C xs).lo ≤ (flS M C xs (limP M k)).hi)
def suP (M : MachD) (C : CurD) (xs : List SpanD) (k n : Nat) : Prop := ∀ j, j < n → j ≠ k → (flS M C xs (limP M j)).hi ≤ (flS M C xs (limP M k)).lo
instance (M : MachD) (C : CurD) (xs : List SpanD) (k n : Nat) : Decidable (suP M C xs k n) := Nat.decidableBallLT n (fun j _ => j ≠ k → (flS M C xs (limP M j)).hi ≤ (flS M C xs (limP M k)).lo)
def sureB (M : MachD) (C : CurD) (xs : List SpanD) (k : Nat) : Bool := decide (suP M C xs k M.limits.length)
def tcL (P : Nat → Bool) (N : Nat) : List Int := ((List.range N).filter P).map (fun (j : Nat) => (j : Int))
def fiC (P : Nat → Bool) (k : Nat) : List Value := (tcL P k).flatMap intCells
theorem tcL_succ (P : Nat → Bool) (k : Nat) : tcL P (k + 1) = tcL P k ++ (if P k = true then [(k : Int)] else []) := by
  unfold tcL
  rw [List.range_succ, List.filter_append, List.map_append]
  congr 1
  by_cases h : P k = true
  · rw [if_pos h]; simp [h]
  · rw [if_neg h]; simp [h]
theorem fi_t {P : Nat → Bool} {k : Nat} (h : P k = true) : fiC P (k + 1) = fiC P k ++ [.int .i64 (k : Int)] := by
  unfold fiC; rw [tcL_succ, if_pos h, List.flatMap_append]; simp [intCells]
theorem fi_f {P : Nat → Bool} {k : Nat} (h : P k = false) : fiC P (k + 1) = fiC P k := by
  unfold fiC; rw [tcL_succ, if_neg (by rw [h]; decide), List.append_nil]
theorem tcL_len (P : Nat → Bool) (N : Nat) : (tcL P N).length ≤ N := by
  unfold tcL
  rw [List.length_map]
  exact Nat.le_trans (List.length_filter_le _ _) (by rw [List.length_range]; exact Nat.le_refl _)
theorem fiC_len (P : Nat → Bool) (k : Nat) : (fiC P k).length = (tcL P k).length := by unfold fiC; rw [flat_int, List.length_map]
def tlL (M : MachD) (C : CurD) (xs : List SpanD) (P : Nat → Bool) : List Int := if bnV M C xs = true then tcL P M.limits.length else []
structure TwoL where
  (k n1 n2 : Nat) (o1 o2 : Gr)
def OutJ (w : World) (E : Int) (zs ys : List Int) (e : Ending) (w' : World) : Prop := ∃ A n c B m d, e = .returned (.tuple #[.slice A n c, .slice B m d, .int .i64 E]) ∧ NewT 1 intCells w.heap.size w' A n c zs ∧ NewT 1 intCells w.heap.size w' B m d ys ∧ Below w.heap.size w w'
theorem suP_t {M : MachD} {C : CurD} {xs : List SpanD} {k j : Nat} (h : j ≠ k) (hb : (flS M C xs (limP M k)).lo < (flS M C xs (limP M j)).hi) : decide (suP M C xs k (j + 1)) = false := decide_eq_false fun g => by have := g j (by omega) h; omega
theorem suP_f {M : MachD} {C : CurD} {xs : List SpanD} {k j : Nat} (h : j = k ∨ (flS M C xs (limP M j)).hi ≤ (flS M C xs (limP M k)).lo) : decide (suP M C xs k (j + 1)) = decide (suP M C xs k j) := by
  rw [decide_eq_decide]
  constructor
  · intro g i hi; exact g i (by omega)
  · intro g i hi hne
    rcases Nat.lt_or_ge i j with h1 | h1
    · exact g i h1 hne
    · obtain rfl : i = j := by omega
      exact h.resolve_left hne
theorem eqt_bs_int_1_0_ (a0 : Value) (ha0 : a0.oneCell' = true) : ∀ w, (Instr.buildSlice 30 1 #[(0, a0)]).run Tryz.prog w = .ok (.slice (some ⟨w.heap.size, 0, none⟩) 1 1) (w.alloc (.cells [a0].toArray 3)) := by
  have ea0 : a0.cells = #[a0] := cells_one ha0
  intro w; (simp [Instr.buildSlice, Instr.fill, cells_agg, newRow, Tryz.runUnderlying30, Tryz.zeroValue3, Tryz.sizeOf3, ea0] <;> (rw [(by kernel_rfl : Array.range 1 = #[0])]; simp [Value.cells]))
set_option maxRecDepth 100000 in
theorem rTouching_any (R : MachR) (M : MachD) (Q : CurR) (C : CurD)   (X : Option Addr) (nx cx : Nat) (xs : List SpanD) (w : World) (hM : IsM w R M) (hC : IsC w Q C) (hS : IsT 2 SpanD.cells w X nx xs) (hlx : nx ≤ 1000000000000000) : Calls Tryz.prog 28 #[(.agg (mCs R M).toArray), (.agg (cCs Q).toArray), (.slice X nx cx)] w (OutJ w (bnE M C xs) (tlL M C xs (sureB M C xs)) (tlL M C xs (mayB M C xs))) := by
  refine calls_ax (vs := [(.agg (mCs R M).toArray), (.agg (cCs Q).toArray), (.slice X nx cx)]) Tryz.func28 rfl rfl ?_
  refine ac_seq (ac_region ?_)
  refine al_new (fun b => .pointer (some ⟨b, 0, none⟩)) (r_box rfl rfl) rfl rfl rfl ?_
  intro b1
  refine al_new (fun b => .pointer (some ⟨b, 0, none⟩)) (r_box rfl rfl) rfl rfl rfl ?_
  intro b2
  refine al_p (q_assign rfl) (al_p (q_assign rfl) (al_p (q_assign rfl) (al_end (aq_then ?_))))
  refine ac_seq (ac_region ?_)
  refine al_p (q_loadAll (i := 1) rfl rfl Tryz.isAgg29 Tryz.sizeOf29 rfl) (al_p (q_loadAll (i := 0) rfl rfl Tryz.isAgg32 Tryz.sizeOf32 rfl) (al_p (q_move rfl) (al_call Tryz.call63 (.cons rfl (.cons rfl (.cons rfl .nil))) rfl rfl (fun w1 hs1 => ?_))))
  refine (rBoundary_any R M Q C X nx cx xs _ (hM.below hs1.below) (hC.below hs1.below) (hS.below hs1.below) hlx).mono ?_
  rintro e u1 ⟨rfl, hb_1⟩
  refine ⟨_, rfl, hb_1, ?_⟩
  clear hs1
  refine al_p (q_move rfl) (al_p (q_extract rfl rfl) (al_p (q_extract rfl rfl) (al_new (fun b => .pointer (some ⟨b, 0, none⟩)) (r_alloc Tryz.zeroValue52 rfl) rfl rfl rfl ?_)))
  intro b3
  refine al_storeAll (i := 0) rfl rfl rfl rfl Tryz.sizeOf52 rfl rfl .k0 rfl (al_p (q_assign rfl) (al_end (aq_then ?_)))
  refine ac_seq (ac_seq (ac_region ?_))
  refine al_p (q_move rfl) (al_p (q_neq rfl rfl) (al_end (aq_then ?_)))
  refine ac_cond rfl (fun h1 => ?_) (fun h1 => ?_)
  · have hne := bne_iff_ne.1 h1
    obtain ⟨e1, e2⟩ := bn_bad hne
    refine ac_seq (ac_region ?_)
    refine al_p (q_move rfl) (al_p (q_assign rfl) (al_p (q_assign rfl) (al_p (q_assign rfl) (al_end (aq_then ?_)))))
    refine ac_ret (aq_thenR (retR Tryz.results28 (.tmp rfl (.tmp rfl (.tmp rfl .nil))) .two (fun w9 hs => ?_)))
    unfold tlL; rw [e1, e2]; exact ⟨none, 0, 0, none, 0, 0, rfl, newT_nil, newT_nil, hs.below⟩
  · have hok : bnE M C xs = 0 := by simpa using h1
    obtain ⟨hf, hX, e1⟩ := bn_ok hok
    have hcn := cellN_eq hX.check
    have ht : (1000000 : Int) ≤ 1000000 := by omega
    have n1 := hS.1
    have n2 := hX.len
    have e3 : (bnS M C xs).lo = (bdS M C xs).lo := by rw [e1]
    have e4 : (bnS M C xs).hi = (bdS M C xs).hi := by rw [e1]
    have hlp := limits_pos hX.check
    have hlm := limits_most hX.check
    have n3 := hM.limits.1
    obtain ⟨b31, o31, hA3, hlt3, hget3⟩ := hM.limits.2 (by omega)
    refine ac_skip (aq_then (ac_seq (ac_region ?_)))
    refine al_p (q_assign rfl) (al_p (q_assign rfl) (al_end (aq_then ?_)))
    refine ac_seq (ac_seq (ac_region ?_))
    refine al_p (q_assign rfl) (al_end (aq_then ?_))
    refine ac_block (ac_loop (β := TwoL) (fun x => x.k ≤ R.lc ∧ (x.n1 ≤ x.k ∧ x.n2 ≤ x.k) ∧ gok x.o1 x.n1 1 (fiC (sureB M C xs) x.k) ∧ gok x.o2 x.n2 1 (fiC (mayB M C xs) x.k)) (fun x => [(2, (.slice X nx cx)), (3, (.pointer (some ⟨b1, 0, none⟩))), (4, (.pointer (some ⟨b2, 0, none⟩))), (6, (.slice none 0 0)), (7, (.slice none 0 0)), (8, (.int .i64 0)), (9, (.pointer (some ⟨b3, 0, none⟩))), (11, (.slice (gA x.o1) x.n1 (gC x.o1))), (12, (.slice (gA x.o2) x.n2 (gC x.o2))), (13, (.int .i64 (x.k : Int)))]) (fun _ => _) (fun x => (b3, _) :: (b2, _) :: (b1, _) :: (gt x.o1 (fiC (sureB M C xs) x.k) ++ (gt x.o2 (fiC (mayB M C xs) x.k) ++ ([])))) (fun x => R.lc - x.k) ⟨0, 0, 0, none, none⟩ ⟨Nat.zero_le _, ⟨Nat.le_refl _, Nat.le_refl _⟩, gok.none 1, gok.none 1⟩ ⟨rfl, rfl, rfl, rfl, rfl, rfl, rfl, rfl, rfl, rfl, trivial⟩ (fun w9 hs => hs) (fun x hF1 => ?_))
    obtain ⟨hkx, ⟨hm1, hm2⟩, hg1, hg2⟩ := hF1
    refine ac_seq (ac_seq (ac_region ?_))
    refine al_p (q_move rfl) ?_
    refine al_p (q_fieldAddr 3 rfl Tryz.runUnderlying29 rfl Tryz.sizeOf24 (by decide) rfl) (al_p (q_load (i := 2) rfl rfl rfl Tryz.isAgg24) (al_p (q_lenS rfl Tryz.runUnderlying24) (al_p (q_lss rfl rfl) (al_end (aq_then ?_)))))
    refine ac_cond rfl (fun h2 => ?_) (fun h2 => ?_)
    · have hkn : x.k < R.lc := by have := of_decide_eq_true h2; omega
      have hx3 := limP_get (M := M) (k := x.k) (by omega)
      refine ac_skip (aq_then (ac_seq (ac_block (ac_seq ?_))))
      refine ac_drawF 10 (.s (.s (.s .z))) (by kernel_rfl) (by kernel_rfl) ?_
      refine ah_t 0 (fun w9 hs => (hs.front (.s (.s (.s (.z)))))) rfl rfl (by kernel_rfl) (q_loadAll (i := 2) rfl rfl Tryz.isAgg29 Tryz.sizeOf29 rfl) (ah_t 1 (fun w9 hs => (hs.front (.s (.s (.s (.z)))))) rfl rfl (by kernel_rfl) (q_loadAll (i := 1) rfl rfl Tryz.isAgg32 Tryz.sizeOf32 rfl) (ah_t 2 (fun w9 hs => (hs.front (.s (.s (.s (.z)))))) rfl rfl (by kernel_rfl) (q_move rfl) ?_))
      refine ah_t 3 (fun w9 hs => (hs.front (.s (.s (.s (.z)))))) rfl rfl (by kernel_rfl) (q_fieldAddr 3 rfl Tryz.runUnderlying29 rfl Tryz.sizeOf24 (by decide) rfl) (ah_t 4 (fun w9 hs => (hs.front (.s (.s (.s (.z)))))) rfl rfl (by kernel_rfl) (q_load (i := 2) rfl rfl rfl Tryz.isAgg24) (ah_t 5 (fun w9 hs => (hs.front (.s (.s (.s (.z)))))) rfl rfl (by kernel_rfl) (q_move rfl) ?_))
      refine ah_t 6 (fun w9 hs => (hs.front (.s (.s (.s (.z)))))) rfl rfl (by kernel_rfl) (q_indexAddrA (i := x.k) (o31 + x.k * 2 + 0) hA3 rfl rfl rfl (by omega) Tryz.runUnderlying24 Tryz.sizeOf36 rfl) (ah_t 7 (fun w9 hs => (hs.front (.s (.s (.s (.z)))))) rfl rfl (by kernel_rfl) (q_loadXs (PointD.cells (limP M x.k)) rfl Tryz.isAgg36 Tryz.sizeOf36 (fun w9 hs j9 v9 h9 => by rw [addr_add]; exact (hs.below.cell (p := ⟨_, _, none⟩) hlt3).trans ((hget3 x.k _ hx3) j9 v9 h9)) rfl) ?_)
      refine ah_two 8 9 rfl rfl  (by kernel_rfl) (fun hok1 hcl1 => ?_) (fun hok1 hcl1 => ?_)
      · refine al_call Tryz.call65 (.cons rfl (.cons rfl (.cons rfl (.cons rfl .nil)))) rfl rfl (fun w2 hs2 => ?_)
        refine (rflux_any R M Q C X nx cx xs (limP M x.k) 1000000 _ (hM.below hs2.below) (hC.below hs2.below) (hS.below hs2.below) hf hX ht).mono ?_
        rintro e u2 ⟨rfl, hb_2⟩
        refine ⟨_, rfl, hb_2, ?_⟩
        clear hs2
        refine al_end (ah_back hok1 hcl1 (fun w9 hs => ((hs.fewer 1 rfl).front (.s (.s (.s (.z)))))) ?_)
        refine ah_one 9 rfl (by kernel_rfl) (fun hok2 hcl2 => ?_)
        refine al_new (fun b => .pointer (some ⟨b, 0, none⟩)) (r_alloc Tryz.zeroValue52 rfl) rfl rfl rfl ?_
        intro b4
        refine al_end (ah_back hok2 hcl2 (fun w9 hs => (((hs.fewer 1 rfl).tail 1 rfl).front (.s (.s (.s (.z)))))) ?_)
        refine ah_one 10 rfl (by kernel_rfl) (fun hok3 hcl3 => ?_)
        refine al_storeAll (i := 0) rfl rfl rfl rfl Tryz.sizeOf52 rfl rfl .k0 rfl (al_end (ah_last (by kernel_rfl) ?_))
        refine aq_then (ac_seq (ac_seq (ac_region ?_)))
        refine al_p (q_fieldAddr 1 rfl Tryz.runUnderlying52 rfl Tryz.sizeOf3 (by decide) rfl) (al_p (q_load (i := 0) rfl rfl rfl Tryz.isAgg3) ?_)
        refine al_p (q_fieldAddr 0 rfl Tryz.runUnderlying52 rfl Tryz.sizeOf3 (by decide) rfl) (al_p (q_load (i := 1) rfl rfl rfl Tryz.isAgg3) (al_p (q_geq rfl rfl) (al_end (aq_then ?_))))
        refine ac_cond rfl (fun h3 => ?_) (fun h3 => ?_)
        · have hmt : mayB M C xs x.k = true := decide_eq_true (by have := of_decide_eq_true h3; omega)
          refine aq_swapT (.s (.s (.s (.s (.z))))) (.s (.s (.s (.s (.z))))) ?_
          refine ac_region (al_p (q_move rfl) (al_p (q_move rfl) (al_new (fun b => .slice (some ⟨b, 0, none⟩) 1 1) (r_buildSlice (.cons rfl .nil) (eqt_bs_int_1_0_ _ rfl)) rfl rfl rfl ?_)))
          intro b5
          refine al_grow (z := 1) (bytes := 8) (zv := (.int .i64 0)) (o := x.o2) (cs := (fiC (mayB M C xs) x.k)) (vs := [.int .i64 (x.k : Int)]) rfl rfl (.s (.s (.s (.s (.s (.z)))))) hg2 (Sor.box (j := 0) rfl rfl rfl) Tryz.underlying30 (by kernel_rfl) rfl (by omega) (by decide) rfl rfl (fun o_1 g_1 => ?_)
          refine ⟨_, (.s (.s (.s (.s (.s (.z)))))), ?_⟩
          refine al_p (q_assign rfl) (al_end (aq_then ?_))
          refine ac_seq (ac_region ?_)
          refine al_p (q_assign rfl) (al_end (aq_then ?_))
          refine ac_seq (ac_seq (ac_region ?_))
          refine al_p (q_assign rfl) (al_end (aq_then ?_))
          refine ac_block ?_
          refine ac_loop (β := Nat) (fun j => j ≤ R.lc) (fun j => [(2, (.slice X nx cx)), (3, (.pointer (some ⟨b1, 0, none⟩))), (4, (.pointer (some ⟨b2, 0, none⟩))), (6, (.slice none 0 0)), (7, (.slice none 0 0)), (8, (.int .i64 0)), (9, (.pointer (some ⟨b3, 0, none⟩))), (11, (.slice (gA x.o1) x.n1 (gC x.o1))), (12, (.slice (gA o_1) (x.n2 + 1) (gC o_1))), (13, (.int .i64 (x.k : Int))), (14, (.pointer (some ⟨b4, 0, none⟩))), (15, (.bool (decide (suP M C xs x.k j)))), (16, (.int .i64 (j : Int))), (27, (.int .i64 (x.k : Int))), (28, (.pointer (some ⟨b1, 3, none⟩))), (29, (.slice (R.C) R.lc R.cc)), (30, (.int .i64 (R.lc : Int))), (34, (.agg (mCs R M).toArray)), (35, (.agg (cCs Q).toArray)), (36, (.slice X nx cx)), (37, (.pointer (some ⟨b1, 3, none⟩))), (38, (.slice (R.C) R.lc R.cc)), (39, (.int .i64 (x.k : Int))), (40, (.pointer (some ⟨b31, o31 + x.k * 2 + 0, none⟩))), (41, (.agg #[.int .i64 (limP M x.k).r, .int .i64 (limP M x.k).z])), (42, (.agg #[.int .i64 (flS M C xs (limP M x.k)).lo, .int .i64 (flS M C xs (limP M x.k)).hi])), (43, (.pointer (some ⟨b4, 1, none⟩))), (44, (.int .i64 (flS M C xs (limP M x.k)).hi)), (45, (.pointer (some ⟨b3, 0, none⟩))), (46, (.int .i64 (bnS M C xs).lo)), (48, (.slice (gA x.o2) x.n2 (gC x.o2))), (49, (.int .i64 (x.k : Int))), (50, (.slice (some ⟨b5, 0, none⟩) 1 1)), (51, (.slice (gA o_1) (x.n2 + 1) (gC o_1)))]) (fun _ => _) (fun j => (b5, _) :: (b4, _) :: (b3, _) :: (b2, _) :: (b1, _) :: (gt o_1 ((fiC (mayB M C xs) x.k) ++ [.int .i64 (x.k : Int)]) ++ (gt x.o1 (fiC (sureB M C xs) x.k) ++ ([])))) (fun j => R.lc - j) 0 (by omega) ⟨rfl, rfl, rfl, rfl, rfl, rfl, rfl, rfl, rfl, rfl, rfl, (by rw [decide_eq_true (show suP M C xs x.k 0 from fun j h => absurd h (Nat.not_lt_zero j))]; rfl), rfl, rfl, rfl, rfl, rfl, rfl, rfl, rfl, rfl, rfl, rfl, rfl, rfl, rfl, rfl, rfl, rfl, rfl, rfl, rfl, rfl, rfl, trivial⟩ (fun w9 hs => hs) (fun j hF2 => ?_)
          refine ac_seq (ac_seq (ac_region ?_))
          refine al_p (q_move rfl) ?_
          refine al_p (q_fieldAddr 3 rfl Tryz.runUnderlying29 rfl Tryz.sizeOf24 (by decide) rfl) (al_p (q_load (i := 4) rfl rfl rfl Tryz.isAgg24) (al_p (q_lenS rfl Tryz.runUnderlying24) (al_p (q_lss rfl rfl) (al_end (aq_then ?_)))))
          refine ac_cond rfl (fun h4 => ?_) (fun h4 => ?_)
          · have hjn : j < R.lc := by have := of_decide_eq_true h4; omega
            have hx4 := limP_get (M := M) (k := j) (by omega)
            refine ac_skip (aq_then (ac_seq (ac_block (ac_seq ?_))))
            refine ac_drawF 17 (.s (.s (.s (.s (.s .z))))) (by kernel_rfl) (by kernel_rfl) ?_
            refine ah_t 0 (fun w9 hs => (hs.front (.s (.s (.s (.s (.s (.z)))))))) rfl rfl (by kernel_rfl) (q_move rfl) (ah_t 1 (fun w9 hs => (hs.front (.s (.s (.s (.s (.s (.z)))))))) rfl rfl (by kernel_rfl) (q_move rfl) (ah_t 2 (fun w9 hs => (hs.front (.s (.s (.s (.s (.s (.z)))))))) rfl rfl (by kernel_rfl) (q_neq rfl rfl) (ah_t 3 (fun w9 hs => (hs.front (.s (.s (.s (.s (.s (.z)))))))) rfl rfl (by kernel_rfl) (q_move rfl) ?_)))
            refine ah_split 62 rfl (fun hb1 => ?_) (fun hb1 => ?_)
            · have hjk : j ≠ x.k := by simp at hb1; omega
              refine ah_t 4 (fun w9 hs => (hs.front (.s (.s (.s (.s (.s (.z)))))))) rfl rfl (by kernel_rfl) (q_loadAll (i := 4) rfl rfl Tryz.isAgg29 Tryz.sizeOf29 rfl) (ah_t 5 (fun w9 hs => (hs.front (.s (.s (.s (.s (.s (.z)))))))) rfl rfl (by kernel_rfl) (q_loadAll (i := 3) rfl rfl Tryz.isAgg32 Tryz.sizeOf32 rfl) (ah_t 6 (fun w9 hs => (hs.front (.s (.s (.s (.s (.s (.z)))))))) rfl rfl (by kernel_rfl) (q_move rfl) ?_))
              refine ah_t 7 (fun w9 hs => (hs.front (.s (.s (.s (.s (.s (.z)))))))) rfl rfl (by kernel_rfl) (q_fieldAddr 3 rfl Tryz.runUnderlying29 rfl Tryz.sizeOf24 (by decide) rfl) (ah_t 8 (fun w9 hs => (hs.front (.s (.s (.s (.s (.s (.z)))))))) rfl rfl (by kernel_rfl) (q_load (i := 4) rfl rfl rfl Tryz.isAgg24) (ah_t 9 (fun w9 hs => (hs.front (.s (.s (.s (.s (.s (.z)))))))) rfl rfl (by kernel_rfl) (q_move rfl) ?_))
              refine ah_t 10 (fun w9 hs => (hs.front (.s (.s (.s (.s (.s (.z)))))))) rfl rfl (by kernel_rfl) (q_indexAddrA (i := j) (o31 + j * 2 + 0) hA3 rfl rfl rfl (by omega) Tryz.runUnderlying24 Tryz.sizeOf36 rfl) (ah_t 11 (fun w9 hs => (hs.front (.s (.s (.s (.s (.s (.z)))))))) rfl rfl (by kernel_rfl) (q_loadXs (PointD.cells (limP M j)) rfl Tryz.isAgg36 Tryz.sizeOf36 (fun w9 hs j9 v9 h9 => by rw [addr_add]; exact (hs.below.cell (p := ⟨_, _, none⟩) hlt3).trans ((hget3 j _ hx4) j9 v9 h9)) rfl) ?_)
              refine ah_t 14 (fun w9 hs => (hs.front (.s (.s (.s (.s (.s (.z)))))))) rfl rfl (by kernel_rfl) (q_fieldAddr 0 rfl Tryz.runUnderlying52 rfl Tryz.sizeOf3 (by decide) rfl) (ah_t 15 (fun w9 hs => (hs.front (.s (.s (.s (.s (.s (.z)))))))) rfl rfl (by kernel_rfl) (q_load (i := 1) rfl rfl rfl Tryz.isAgg3) (ah_one 12 rfl (by kernel_rfl) (fun hok4 hcl4 => ?_)))
              refine al_call Tryz.call65 (.cons rfl (.cons rfl (.cons rfl (.cons rfl .nil)))) rfl rfl (fun w3 hs3 => ?_)
              refine (rflux_any R M Q C X nx cx xs (limP M j) 1000000 _ (hM.below hs3.below) (hC.below hs3.below) (hS.below hs3.below) hf hX ht).mono ?_
              rintro e u3 ⟨rfl, hb_3⟩
              refine ⟨_, rfl, hb_3, ?_⟩
              clear hs3
              refine al_end (ah_back hok4 hcl4 (fun w9 hs => ((hs.fewer 1 rfl).front (.s (.s (.s (.s (.s (.z)))))))) ?_)
              refine ah_t 13 (fun w9 hs => ((hs.fewer 1 rfl).front (.s (.s (.s (.s (.s (.z)))))))) rfl rfl (by kernel_rfl) (q_fieldV rfl Tryz.runUnderlying52 rfl Tryz.isAgg3 rfl) (ah_t 16 (fun w9 hs => ((hs.fewer 1 rfl).front (.s (.s (.s (.s (.s (.z)))))))) rfl rfl (by kernel_rfl) (q_gtr rfl rfl) (ah_t 17 (fun w9 hs => ((hs.fewer 1 rfl).front (.s (.s (.s (.s (.s (.z)))))))) rfl rfl (by kernel_rfl) (q_pickT rfl rfl) (ah_done (by kernel_rfl) ?_)))
              refine aq_then (aq_keepL [2, 3, 4, 6, 7, 8, 9, 11, 12, 13, 14, 15, 16, 27, 28, 29, 30, 34, 35, 36, 37, 38, 39, 40, 41, 42, 43, 44, 45, 46, 48, 49, 50, 51, 52, 53, 54, 55, 56, 59, 60, 61, 62, 63, 64, 65, 66, 67, 68, 69, 70, 71, 72, 73, 74, 75, 76] (.cons rfl (.cons rfl (.cons rfl (.cons rfl (.cons rfl (.cons rfl (.cons rfl (.cons rfl (.cons rfl (.cons rfl (.cons rfl (.cons rfl (.cons rfl (.cons rfl (.cons rfl (.cons rfl (.cons rfl (.cons rfl (.cons rfl (.cons rfl (.cons rfl (.cons rfl (.cons rfl (.cons rfl (.cons rfl (.cons rfl (.cons rfl (.cons rfl (.cons rfl (.cons rfl (.cons rfl (.cons rfl (.cons rfl (.cons rfl (.cons rfl (.cons rfl (.cons rfl (.cons rfl (.cons rfl (.cons rfl (.cons rfl (.cons rfl (.cons rfl (.cons rfl (.cons rfl (.cons rfl (.cons rfl (.cons rfl (.cons rfl (.cons rfl (.cons rfl (.cons rfl (.cons rfl (.cons rfl (.cons rfl (.cons rfl (.cons rfl .nil))))))))))))))))))))))))))))))))))))))))))))))))))))))))) ?_)
              refine ac_cond rfl (fun h5 => ?_) (fun h5 => ?_)
              · have hnx := suP_t (M := M) (C := C) (xs := xs) hjk (of_decide_eq_true h5)
                refine ac_region (al_p (q_assign rfl) (al_end (aq_inN (aq_then ?_))))
                refine ac_region (al_p (q_move rfl) ?_)
                refine al_p (q_add rfl rfl (by omega)) (al_p (q_assign rfl) (al_end (aq_then ?_)))
                skip
                refine aq_round (j + 1) (by omega) (by omega) ⟨rfl, rfl, rfl, rfl, rfl, rfl, rfl, rfl, rfl, rfl, rfl, (by rw [hnx]; rfl), rfl, rfl, rfl, rfl, rfl, rfl, rfl, rfl, rfl, rfl, rfl, rfl, rfl, rfl, rfl, rfl, rfl, rfl, rfl, rfl, rfl, rfl, trivial⟩ (fun w9 hs => (hs.fewer 1 rfl))
              · have hnx := suP_f (M := M) (C := C) (xs := xs) (k := x.k) (j := j) (Or.inr (by have := of_decide_eq_false h5; omega))
                refine ac_skip (aq_inN (aq_then (ac_region (al_p (q_move rfl) ?_))))
                refine al_p (q_add rfl rfl (by omega)) (al_p (q_assign rfl) (al_end (aq_then ?_)))
                skip
                refine aq_round (j + 1) (by omega) (by omega) ⟨rfl, rfl, rfl, rfl, rfl, rfl, rfl, rfl, rfl, rfl, rfl, (by rw [hnx]; rfl), rfl, rfl, rfl, rfl, rfl, rfl, rfl, rfl, rfl, rfl, rfl, rfl, rfl, rfl, rfl, rfl, rfl, rfl, rfl, rfl, rfl, rfl, trivial⟩ (fun w9 hs => (hs.fewer 1 rfl))
            · have hjk : j = x.k := by simp at hb1; omega
              have hnx := suP_f (M := M) (C := C) (xs := xs) (Or.inl hjk)
              refine ah_s 4 (fun w9 hs => (hs.front (.s (.s (.s (.s (.s (.z)))))))) rfl rfl (by kernel_rfl) (ah_s 5 (fun w9 hs => (hs.front (.s (.s (.s (.s (.s (.z)))))))) rfl rfl (by kernel_rfl) (ah_s 6 (fun w9 hs => (hs.front (.s (.s (.s (.s (.s (.z)))))))) rfl rfl (by kernel_rfl) (ah_s 7 (fun w9 hs => (hs.front (.s (.s (.s (.s (.s (.z)))))))) rfl rfl (by kernel_rfl) (ah_s 8 (fun w9 hs => (hs.front (.s (.s (.s (.s (.s (.z)))))))) rfl rfl (by kernel_rfl) ?_))))
              refine ah_s 9 (fun w9 hs => (hs.front (.s (.s (.s (.s (.s (.z)))))))) rfl rfl (by kernel_rfl) (ah_s 10 (fun w9 hs => (hs.front (.s (.s (.s (.s (.s (.z)))))))) rfl rfl (by kernel_rfl) (ah_s 11 (fun w9 hs => (hs.front (.s (.s (.s (.s (.s (.z)))))))) rfl rfl (by kernel_rfl) (ah_s 12 (fun w9 hs => (hs.front (.s (.s (.s (.s (.s (.z)))))))) rfl rfl (by kernel_rfl) (ah_s 13 (fun w9 hs => (hs.front (.s (.s (.s (.s (.s (.z)))))))) rfl rfl (by kernel_rfl) ?_))))
              refine ah_s 14 (fun w9 hs => (hs.front (.s (.s (.s (.s (.s (.z)))))))) rfl rfl (by kernel_rfl) (ah_s 15 (fun w9 hs => (hs.front (.s (.s (.s (.s (.s (.z)))))))) rfl rfl (by kernel_rfl) (ah_s 16 (fun w9 hs => (hs.front (.s (.s (.s (.s (.s (.z)))))))) rfl rfl (by kernel_rfl) (ah_t 17 (fun w9 hs => (hs.front (.s (.s (.s (.s (.s (.z)))))))) rfl rfl (by kernel_rfl) (q_pickF rfl rfl) (ah_done (by kernel_rfl) ?_))))
              refine aq_then (ac_condF rfl (ac_skip (aq_inN (aq_then ?_))))
              refine ac_region (al_p (q_move rfl) ?_)
              refine al_p (q_add rfl rfl (by omega)) (al_p (q_assign rfl) (al_end (aq_then ?_)))
              skip
              refine aq_round (j + 1) (by omega) (by omega) ⟨rfl, rfl, rfl, rfl, rfl, rfl, rfl, rfl, rfl, rfl, rfl, (by rw [hnx]; rfl), rfl, rfl, rfl, rfl, rfl, rfl, rfl, rfl, rfl, rfl, rfl, rfl, rfl, rfl, rfl, rfl, rfl, rfl, rfl, rfl, rfl, rfl, trivial⟩ (fun w9 hs => hs)
          · have hje : j = M.limits.length := by have := of_decide_eq_false h4; omega
            refine ac_exit (aq_thenE (aq_thenE (aq_hit (aq_then ?_))))
            refine ac_seq (ac_region ?_)
            refine al_p (q_move rfl) (al_end (aq_then ?_))
            refine ac_cond rfl (fun h6 => ?_) (fun h6 => ?_)
            · have hst : sureB M C xs x.k = true := by rw [hje] at h6; exact h6
              refine aq_swapT (.s (.s (.s (.s (.s (.z)))))) (.s (.s (.s (.s (.s (.z)))))) ?_
              refine ac_region (al_p (q_move rfl) (al_p (q_move rfl) (al_new (fun b => .slice (some ⟨b, 0, none⟩) 1 1) (r_buildSlice (.cons rfl .nil) (eqt_bs_int_1_0_ _ rfl)) rfl rfl rfl ?_)))
              intro b6
              refine al_grow (z := 1) (bytes := 8) (zv := (.int .i64 0)) (o := x.o1) (cs := (fiC (sureB M C xs) x.k)) (vs := [.int .i64 (x.k : Int)]) rfl rfl (.s (.s (.s (.s (.s (.s (.z))))))) hg1 (Sor.box (j := 0) rfl rfl rfl) Tryz.underlying30 (by kernel_rfl) rfl (by omega) (by decide) rfl rfl (fun o_2 g_2 => ?_)
              refine ⟨_, (.s (.s (.s (.s (.s (.s (.z))))))), ?_⟩
              refine al_p (q_assign rfl) (al_end (aq_inN (aq_then (ac_region ?_))))
              refine al_p (q_move rfl) ?_
              refine al_p (q_add rfl rfl (by omega)) (al_p (q_assign rfl) (al_end (aq_then ?_)))
              skip
              refine aq_round (⟨x.k + 1, (x.n1 + 1), (x.n2 + 1), o_2, o_1⟩) (by simp only; omega) ⟨by simp only; omega, ⟨by simp only; omega, by simp only; omega⟩, by simp only; rw [fi_t hst]; exact g_2, by simp only; rw [fi_t hmt]; exact g_1⟩ ⟨rfl, rfl, rfl, rfl, rfl, rfl, rfl, rfl, rfl, rfl, trivial⟩ (fun w9 hs => (by dsimp only; rw [fi_t hst, fi_t hmt]; exact ((hs.fewer 1 rfl).tail 3 rfl)))
            · have hsf : sureB M C xs x.k = false := by rw [hje] at h6; exact h6
              refine ac_skip (aq_inN (aq_then (aq_swapT (.s (.s (.s (.s (.s (.z)))))) (.s (.s (.s (.s (.s (.z)))))) ?_)))
              refine ac_region (al_p (q_move rfl) ?_)
              refine al_p (q_add rfl rfl (by omega)) (al_p (q_assign rfl) (al_end (aq_then ?_)))
              skip
              refine aq_round (⟨x.k + 1, x.n1, (x.n2 + 1), x.o1, o_1⟩) (by simp only; omega) ⟨by simp only; omega, ⟨by simp only; omega, by simp only; omega⟩, by simp only; rw [fi_f hsf]; exact hg1, by simp only; rw [fi_t hmt]; exact g_1⟩ ⟨rfl, rfl, rfl, rfl, rfl, rfl, rfl, rfl, rfl, rfl, trivial⟩ (fun w9 hs => (by dsimp only; rw [fi_f hsf, fi_t hmt]; exact ((hs.fewer 1 rfl).tail 2 rfl)))
        · have hmf : mayB M C xs x.k = false := decide_eq_false (by have := of_decide_eq_false h3; omega)
          refine ac_skip (aq_then (ac_seq (ac_region ?_)))
          refine al_p (q_assign rfl) (al_end (aq_then ?_))
          refine ac_seq (ac_seq (ac_region ?_))
          refine al_p (q_assign rfl) (al_end (aq_then ?_))
          refine ac_block ?_
          refine ac_loop (β := Nat) (fun j => j ≤ R.lc) (fun j => [(2, (.slice X nx cx)), (3, (.pointer (some ⟨b1, 0, none⟩))), (4, (.pointer (some ⟨b2, 0, none⟩))), (6, (.slice none 0 0)), (7, (.slice none 0 0)), (8, (.int .i64 0)), (9, (.pointer (some ⟨b3, 0, none⟩))), (11, (.slice (gA x.o1) x.n1 (gC x.o1))), (12, (.slice (gA x.o2) x.n2 (gC x.o2))), (13, (.int .i64 (x.k : Int))), (14, (.pointer (some ⟨b4, 0, none⟩))), (15, (.bool (decide (suP M C xs x.k j)))), (16, (.int .i64 (j : Int))), (27, (.int .i64 (x.k : Int))), (28, (.pointer (some ⟨b1, 3, none⟩))), (29, (.slice (R.C) R.lc R.cc)), (30, (.int .i64 (R.lc : Int))), (34, (.agg (mCs R M).toArray)), (35, (.agg (cCs Q).toArray)), (36, (.slice X nx cx)), (37, (.pointer (some ⟨b1, 3, none⟩))), (38, (.slice (R.C) R.lc R.cc)), (39, (.int .i64 (x.k : Int))), (40, (.pointer (some ⟨b31, o31 + x.k * 2 + 0, none⟩))), (41, (.agg #[.int .i64 (limP M x.k).r, .int .i64 (limP M x.k).z])), (42, (.agg #[.int .i64 (flS M C xs (limP M x.k)).lo, .int .i64 (flS M C xs (limP M x.k)).hi])), (43, (.pointer (some ⟨b4, 1, none⟩))), (44, (.int .i64 (flS M C xs (limP M x.k)).hi)), (45, (.pointer (some ⟨b3, 0, none⟩))), (46, (.int .i64 (bnS M C xs).lo))]) (fun _ => _) (fun j => (b4, _) :: (b3, _) :: (b2, _) :: (b1, _) :: (gt x.o1 (fiC (sureB M C xs) x.k) ++ (gt x.o2 (fiC (mayB M C xs) x.k) ++ ([])))) (fun j => R.lc - j) 0 (by omega) ⟨rfl, rfl, rfl, rfl, rfl, rfl, rfl, rfl, rfl, rfl, rfl, (by rw [decide_eq_true (show suP M C xs x.k 0 from fun j h => absurd h (Nat.not_lt_zero j))]; rfl), rfl, rfl, rfl, rfl, rfl, rfl, rfl, rfl, rfl, rfl, rfl, rfl, rfl, rfl, rfl, rfl, rfl, rfl, trivial⟩ (fun w9 hs => hs) (fun j hF3 => ?_)
          refine ac_seq (ac_seq (ac_region ?_))
          refine al_p (q_move rfl) ?_
          refine al_p (q_fieldAddr 3 rfl Tryz.runUnderlying29 rfl Tryz.sizeOf24 (by decide) rfl) (al_p (q_load (i := 3) rfl rfl rfl Tryz.isAgg24) (al_p (q_lenS rfl Tryz.runUnderlying24) (al_p (q_lss rfl rfl) (al_end (aq_then ?_)))))
          refine ac_cond rfl (fun h7 => ?_) (fun h7 => ?_)
          · have hjn : j < R.lc := by have := of_decide_eq_true h7; omega
            have hx4 := limP_get (M := M) (k := j) (by omega)
            refine ac_skip (aq_then (ac_seq (ac_block (ac_seq ?_))))
            refine ac_drawF 17 (.s (.s (.s (.s .z)))) (by kernel_rfl) (by kernel_rfl) ?_
            refine ah_t 0 (fun w9 hs => (hs.front (.s (.s (.s (.s (.z))))))) rfl rfl (by kernel_rfl) (q_move rfl) (ah_t 1 (fun w9 hs => (hs.front (.s (.s (.s (.s (.z))))))) rfl rfl (by kernel_rfl) (q_move rfl) (ah_t 2 (fun w9 hs => (hs.front (.s (.s (.s (.s (.z))))))) rfl rfl (by kernel_rfl) (q_neq rfl rfl) (ah_t 3 (fun w9 hs => (hs.front (.s (.s (.s (.s (.z))))))) rfl rfl (by kernel_rfl) (q_move rfl) ?_)))
            refine ah_split 62 rfl (fun hb2 => ?_) (fun hb2 => ?_)
            · have hjk : j ≠ x.k := by simp at hb2; omega
              refine ah_t 4 (fun w9 hs => (hs.front (.s (.s (.s (.s (.z))))))) rfl rfl (by kernel_rfl) (q_loadAll (i := 3) rfl rfl Tryz.isAgg29 Tryz.sizeOf29 rfl) (ah_t 5 (fun w9 hs => (hs.front (.s (.s (.s (.s (.z))))))) rfl rfl (by kernel_rfl) (q_loadAll (i := 2) rfl rfl Tryz.isAgg32 Tryz.sizeOf32 rfl) (ah_t 6 (fun w9 hs => (hs.front (.s (.s (.s (.s (.z))))))) rfl rfl (by kernel_rfl) (q_move rfl) ?_))
              refine ah_t 7 (fun w9 hs => (hs.front (.s (.s (.s (.s (.z))))))) rfl rfl (by kernel_rfl) (q_fieldAddr 3 rfl Tryz.runUnderlying29 rfl Tryz.sizeOf24 (by decide) rfl) (ah_t 8 (fun w9 hs => (hs.front (.s (.s (.s (.s (.z))))))) rfl rfl (by kernel_rfl) (q_load (i := 3) rfl rfl rfl Tryz.isAgg24) (ah_t 9 (fun w9 hs => (hs.front (.s (.s (.s (.s (.z))))))) rfl rfl (by kernel_rfl) (q_move rfl) ?_))
              refine ah_t 10 (fun w9 hs => (hs.front (.s (.s (.s (.s (.z))))))) rfl rfl (by kernel_rfl) (q_indexAddrA (i := j) (o31 + j * 2 + 0) hA3 rfl rfl rfl (by omega) Tryz.runUnderlying24 Tryz.sizeOf36 rfl) (ah_t 11 (fun w9 hs => (hs.front (.s (.s (.s (.s (.z))))))) rfl rfl (by kernel_rfl) (q_loadXs (PointD.cells (limP M j)) rfl Tryz.isAgg36 Tryz.sizeOf36 (fun w9 hs j9 v9 h9 => by rw [addr_add]; exact (hs.below.cell (p := ⟨_, _, none⟩) hlt3).trans ((hget3 j _ hx4) j9 v9 h9)) rfl) ?_)
              refine ah_t 14 (fun w9 hs => (hs.front (.s (.s (.s (.s (.z))))))) rfl rfl (by kernel_rfl) (q_fieldAddr 0 rfl Tryz.runUnderlying52 rfl Tryz.sizeOf3 (by decide) rfl) (ah_t 15 (fun w9 hs => (hs.front (.s (.s (.s (.s (.z))))))) rfl rfl (by kernel_rfl) (q_load (i := 0) rfl rfl rfl Tryz.isAgg3) (ah_one 12 rfl (by kernel_rfl) (fun hok5 hcl5 => ?_)))
              refine al_call Tryz.call65 (.cons rfl (.cons rfl (.cons rfl (.cons rfl .nil)))) rfl rfl (fun w4 hs4 => ?_)
              refine (rflux_any R M Q C X nx cx xs (limP M j) 1000000 _ (hM.below hs4.below) (hC.below hs4.below) (hS.below hs4.below) hf hX ht).mono ?_
              rintro e u4 ⟨rfl, hb_4⟩
              refine ⟨_, rfl, hb_4, ?_⟩
              clear hs4
              refine al_end (ah_back hok5 hcl5 (fun w9 hs => ((hs.fewer 1 rfl).front (.s (.s (.s (.s (.z))))))) ?_)
              refine ah_t 13 (fun w9 hs => ((hs.fewer 1 rfl).front (.s (.s (.s (.s (.z))))))) rfl rfl (by kernel_rfl) (q_fieldV rfl Tryz.runUnderlying52 rfl Tryz.isAgg3 rfl) (ah_t 16 (fun w9 hs => ((hs.fewer 1 rfl).front (.s (.s (.s (.s (.z))))))) rfl rfl (by kernel_rfl) (q_gtr rfl rfl) (ah_t 17 (fun w9 hs => ((hs.fewer 1 rfl).front (.s (.s (.s (.s (.z))))))) rfl rfl (by kernel_rfl) (q_pickT rfl rfl) (ah_done (by kernel_rfl) ?_)))
              refine aq_then ?_
              refine ac_cond rfl (fun h8 => ?_) (fun h8 => ?_)
              · have hnx := suP_t (M := M) (C := C) (xs := xs) hjk (of_decide_eq_true h8)
                refine ac_region (al_p (q_assign rfl) (al_end (aq_inN (aq_then ?_))))
                refine ac_region (al_p (q_move rfl) ?_)
                refine al_p (q_add rfl rfl (by omega)) (al_p (q_assign rfl) (al_end (aq_then ?_)))
                skip
                refine aq_round (j + 1) (by omega) (by omega) ⟨rfl, rfl, rfl, rfl, rfl, rfl, rfl, rfl, rfl, rfl, rfl, (by rw [hnx]; rfl), rfl, rfl, rfl, rfl, rfl, rfl, rfl, rfl, rfl, rfl, rfl, rfl, rfl, rfl, rfl, rfl, rfl, rfl, trivial⟩ (fun w9 hs => (hs.fewer 1 rfl))
              · have hnx := suP_f (M := M) (C := C) (xs := xs) (k := x.k) (j := j) (Or.inr (by have := of_decide_eq_false h8; omega))
                refine ac_skip (aq_inN (aq_then (ac_region (al_p (q_move rfl) ?_))))
                refine al_p (q_add rfl rfl (by omega)) (al_p (q_assign rfl) (al_end (aq_then ?_)))
                skip
                refine aq_round (j + 1) (by omega) (by omega) ⟨rfl, rfl, rfl, rfl, rfl, rfl, rfl, rfl, rfl, rfl, rfl, (by rw [hnx]; rfl), rfl, rfl, rfl, rfl, rfl, rfl, rfl, rfl, rfl, rfl, rfl, rfl, rfl, rfl, rfl, rfl, rfl, rfl, trivial⟩ (fun w9 hs => (hs.fewer 1 rfl))
            · have hjk : j = x.k := by simp at hb2; omega
              have hnx := suP_f (M := M) (C := C) (xs := xs) (Or.inl hjk)
              refine ah_s 4 (fun w9 hs => (hs.front (.s (.s (.s (.s (.z))))))) rfl rfl (by kernel_rfl) (ah_s 5 (fun w9 hs => (hs.front (.s (.s (.s (.s (.z))))))) rfl rfl (by kernel_rfl) (ah_s 6 (fun w9 hs => (hs.front (.s (.s (.s (.s (.z))))))) rfl rfl (by kernel_rfl) (ah_s 7 (fun w9 hs => (hs.front (.s (.s (.s (.s (.z))))))) rfl rfl (by kernel_rfl) (ah_s 8 (fun w9 hs => (hs.front (.s (.s (.s (.s (.z))))))) rfl rfl (by kernel_rfl) ?_))))
              refine ah_s 9 (fun w9 hs => (hs.front (.s (.s (.s (.s (.z))))))) rfl rfl (by kernel_rfl) (ah_s 10 (fun w9 hs => (hs.front (.s (.s (.s (.s (.z))))))) rfl rfl (by kernel_rfl) (ah_s 11 (fun w9 hs => (hs.front (.s (.s (.s (.s (.z))))))) rfl rfl (by kernel_rfl) (ah_s 12 (fun w9 hs => (hs.front (.s (.s (.s (.s (.z))))))) rfl rfl (by kernel_rfl) (ah_s 13 (fun w9 hs => (hs.front (.s (.s (.s (.s (.z))))))) rfl rfl (by kernel_rfl) ?_))))
              refine ah_s 14 (fun w9 hs => (hs.front (.s (.s (.s (.s (.z))))))) rfl rfl (by kernel_rfl) (ah_s 15 (fun w9 hs => (hs.front (.s (.s (.s (.s (.z))))))) rfl rfl (by kernel_rfl) (ah_s 16 (fun w9 hs => (hs.front (.s (.s (.s (.s (.z))))))) rfl rfl (by kernel_rfl) (ah_t 17 (fun w9 hs => (hs.front (.s (.s (.s (.s (.z))))))) rfl rfl (by kernel_rfl) (q_pickF rfl rfl) (ah_done (by kernel_rfl) ?_))))
              refine aq_then (ac_condF rfl (ac_skip (aq_inN (aq_then ?_))))
              refine ac_region (al_p (q_move rfl) ?_)
              refine al_p (q_add rfl rfl (by omega)) (al_p (q_assign rfl) (al_end (aq_then ?_)))
              skip
              refine aq_round (j + 1) (by omega) (by omega) ⟨rfl, rfl, rfl, rfl, rfl, rfl, rfl, rfl, rfl, rfl, rfl, (by rw [hnx]; rfl), rfl, rfl, rfl, rfl, rfl, rfl, rfl, rfl, rfl, rfl, rfl, rfl, rfl, rfl, rfl, rfl, rfl, rfl, trivial⟩ (fun w9 hs => hs)
          · have hje : j = M.limits.length := by have := of_decide_eq_false h7; omega
            refine ac_exit (aq_thenE (aq_thenE (aq_hit (aq_then ?_))))
            refine ac_seq (ac_region ?_)
            refine al_p (q_move rfl) (al_end (aq_then ?_))
            refine ac_cond rfl (fun h9 => ?_) (fun h9 => ?_)
            · have hst : sureB M C xs x.k = true := by rw [hje] at h9; exact h9
              refine ac_region (al_p (q_move rfl) (al_p (q_move rfl) (al_new (fun b => .slice (some ⟨b, 0, none⟩) 1 1) (r_buildSlice (.cons rfl .nil) (eqt_bs_int_1_0_ _ rfl)) rfl rfl rfl ?_)))
              intro b7
              refine al_grow (z := 1) (bytes := 8) (zv := (.int .i64 0)) (o := x.o1) (cs := (fiC (sureB M C xs) x.k)) (vs := [.int .i64 (x.k : Int)]) rfl rfl (.s (.s (.s (.s (.s (.z)))))) hg1 (Sor.box (j := 0) rfl rfl rfl) Tryz.underlying30 (by kernel_rfl) rfl (by omega) (by decide) rfl rfl (fun o_3 g_3 => ?_)
              refine ⟨_, (.s (.s (.s (.s (.s (.z)))))), ?_⟩
              refine al_p (q_assign rfl) (al_end (aq_inN (aq_then (aq_keepL [2, 3, 4, 6, 7, 8, 9, 11, 12, 13, 14, 15, 16, 27, 28, 29, 30, 34, 35, 36, 37, 38, 39, 40, 41, 42, 43, 44, 45, 46, 52, 53, 54, 55, 56, 77, 78, 79, 80, 81] (.cons rfl (.cons rfl (.cons rfl (.cons rfl (.cons rfl (.cons rfl (.cons rfl (.cons rfl (.cons rfl (.cons rfl (.cons rfl (.cons rfl (.cons rfl (.cons rfl (.cons rfl (.cons rfl (.cons rfl (.cons rfl (.cons rfl (.cons rfl (.cons rfl (.cons rfl (.cons rfl (.cons rfl (.cons rfl (.cons rfl (.cons rfl (.cons rfl (.cons rfl (.cons rfl (.cons rfl (.cons rfl (.cons rfl (.cons rfl (.cons rfl (.cons rfl (.cons rfl (.cons rfl (.cons rfl (.cons rfl .nil)))))))))))))))))))))))))))))))))))))))) ?_))))
              refine ac_region (al_p (q_move rfl) ?_)
              refine al_p (q_add rfl rfl (by omega)) (al_p (q_assign rfl) (al_end (aq_then ?_)))
              skip
              refine aq_round (⟨x.k + 1, (x.n1 + 1), x.n2, o_3, x.o2⟩) (by simp only; omega) ⟨by simp only; omega, ⟨by simp only; omega, by simp only; omega⟩, by simp only; rw [fi_t hst]; exact g_3, by simp only; rw [fi_f hmf]; exact hg2⟩ ⟨rfl, rfl, rfl, rfl, rfl, rfl, rfl, rfl, rfl, rfl, trivial⟩ (fun w9 hs => (by dsimp only; rw [fi_t hst, fi_f hmf]; exact ((hs.fewer 1 rfl).tail 2 rfl)))
            · have hsf : sureB M C xs x.k = false := by rw [hje] at h9; exact h9
              refine ac_skip (aq_inN (aq_then (ac_region (al_p (q_move rfl) ?_))))
              refine al_p (q_add rfl rfl (by omega)) (al_p (q_assign rfl) (al_end (aq_then ?_)))
              skip
              refine aq_round (⟨x.k + 1, x.n1, x.n2, x.o1, x.o2⟩) (by simp only; omega) ⟨by simp only; omega, ⟨by simp only; omega, by simp only; omega⟩, by simp only; rw [fi_f hsf]; exact hg1, by simp only; rw [fi_f hmf]; exact hg2⟩ ⟨rfl, rfl, rfl, rfl, rfl, rfl, rfl, rfl, rfl, rfl, trivial⟩ (fun w9 hs => (by dsimp only; rw [fi_f hsf, fi_f hmf]; exact ((hs.fewer 1 rfl).tail 1 rfl)))
      · refine al_new (fun b => .pointer (some ⟨b, 0, none⟩)) (r_alloc Tryz.zeroValue52 rfl) rfl rfl rfl ?_
        intro b8
        refine al_end (ah_back hok1 hcl1 (fun w9 hs => ((hs.tail 1 rfl).front (.s (.s (.s (.z)))))) ?_)
        refine ah_one 8 rfl (by kernel_rfl) (fun hok6 hcl6 => ?_)
        refine al_call Tryz.call65 (.cons rfl (.cons rfl (.cons rfl (.cons rfl .nil)))) rfl rfl (fun w5 hs5 => ?_)
        refine (rflux_any R M Q C X nx cx xs (limP M x.k) 1000000 _ (hM.below hs5.below) (hC.below hs5.below) (hS.below hs5.below) hf hX ht).mono ?_
        rintro e u5 ⟨rfl, hb_5⟩
        refine ⟨_, rfl, hb_5, ?_⟩
        clear hs5
        refine al_end (ah_back hok6 hcl6 (fun w9 hs => (((hs.fewer 1 rfl).tail 1 rfl).front (.s (.s (.s (.z)))))) ?_)
        refine ah_one 10 rfl (by kernel_rfl) (fun hok7 hcl7 => ?_)
        refine al_storeAll (i := 0) rfl rfl rfl rfl Tryz.sizeOf52 rfl rfl .k0 rfl (al_end (ah_last (by kernel_rfl) ?_))
        refine aq_then (ac_seq (ac_seq (ac_region ?_)))
        refine al_p (q_fieldAddr 1 rfl Tryz.runUnderlying52 rfl Tryz.sizeOf3 (by decide) rfl) (al_p (q_load (i := 0) rfl rfl rfl Tryz.isAgg3) ?_)
        refine al_p (q_fieldAddr 0 rfl Tryz.runUnderlying52 rfl Tryz.sizeOf3 (by decide) rfl) (al_p (q_load (i := 1) rfl rfl rfl Tryz.isAgg3) (al_p (q_geq rfl rfl) (al_end (aq_then ?_))))
        refine ac_cond rfl (fun h10 => ?_) (fun h10 => ?_)
        · have hmt : mayB M C xs x.k = true := decide_eq_true (by have := of_decide_eq_true h10; omega)
          refine aq_swapT (.s (.s (.s (.s (.z))))) (.s (.s (.s (.s (.z))))) ?_
          refine ac_region (al_p (q_move rfl) (al_p (q_move rfl) (al_new (fun b => .slice (some ⟨b, 0, none⟩) 1 1) (r_buildSlice (.cons rfl .nil) (eqt_bs_int_1_0_ _ rfl)) rfl rfl rfl ?_)))
          intro b9
          refine al_grow (z := 1) (bytes := 8) (zv := (.int .i64 0)) (o := x.o2) (cs := (fiC (mayB M C xs) x.k)) (vs := [.int .i64 (x.k : Int)]) rfl rfl (.s (.s (.s (.s (.s (.z)))))) hg2 (Sor.box (j := 0) rfl rfl rfl) Tryz.underlying30 (by kernel_rfl) rfl (by omega) (by decide) rfl rfl (fun o_4 g_4 => ?_)
          refine ⟨_, (.s (.s (.s (.s (.s (.z)))))), ?_⟩
          refine al_p (q_assign rfl) (al_end (aq_then ?_))
          refine ac_seq (ac_region ?_)
          refine al_p (q_assign rfl) (al_end (aq_then ?_))
          refine ac_seq (ac_seq (ac_region ?_))
          refine al_p (q_assign rfl) (al_end (aq_then ?_))
          refine ac_block ?_
          refine ac_loop (β := Nat) (fun j => j ≤ R.lc) (fun j => [(2, (.slice X nx cx)), (3, (.pointer (some ⟨b1, 0, none⟩))), (4, (.pointer (some ⟨b2, 0, none⟩))), (6, (.slice none 0 0)), (7, (.slice none 0 0)), (8, (.int .i64 0)), (9, (.pointer (some ⟨b3, 0, none⟩))), (11, (.slice (gA x.o1) x.n1 (gC x.o1))), (12, (.slice (gA o_4) (x.n2 + 1) (gC o_4))), (13, (.int .i64 (x.k : Int))), (14, (.pointer (some ⟨b8, 0, none⟩))), (15, (.bool (decide (suP M C xs x.k j)))), (16, (.int .i64 (j : Int))), (27, (.int .i64 (x.k : Int))), (28, (.pointer (some ⟨b1, 3, none⟩))), (29, (.slice (R.C) R.lc R.cc)), (30, (.int .i64 (R.lc : Int))), (34, (.agg (mCs R M).toArray)), (35, (.agg (cCs Q).toArray)), (36, (.slice X nx cx)), (37, (.pointer (some ⟨b1, 3, none⟩))), (38, (.slice (R.C) R.lc R.cc)), (39, (.int .i64 (x.k : Int))), (40, (.pointer (some ⟨b31, o31 + x.k * 2 + 0, none⟩))), (41, (.agg #[.int .i64 (limP M x.k).r, .int .i64 (limP M x.k).z])), (42, (.agg #[.int .i64 (flS M C xs (limP M x.k)).lo, .int .i64 (flS M C xs (limP M x.k)).hi])), (43, (.pointer (some ⟨b8, 1, none⟩))), (44, (.int .i64 (flS M C xs (limP M x.k)).hi)), (45, (.pointer (some ⟨b3, 0, none⟩))), (46, (.int .i64 (bnS M C xs).lo)), (48, (.slice (gA x.o2) x.n2 (gC x.o2))), (49, (.int .i64 (x.k : Int))), (50, (.slice (some ⟨b9, 0, none⟩) 1 1)), (51, (.slice (gA o_4) (x.n2 + 1) (gC o_4)))]) (fun _ => _) (fun j => (b9, _) :: (b8, _) :: (b3, _) :: (b2, _) :: (b1, _) :: (gt o_4 ((fiC (mayB M C xs) x.k) ++ [.int .i64 (x.k : Int)]) ++ (gt x.o1 (fiC (sureB M C xs) x.k) ++ ([])))) (fun j => R.lc - j) 0 (by omega) ⟨rfl, rfl, rfl, rfl, rfl, rfl, rfl, rfl, rfl, rfl, rfl, (by rw [decide_eq_true (show suP M C xs x.k 0 from fun j h => absurd h (Nat.not_lt_zero j))]; rfl), rfl, rfl, rfl, rfl, rfl, rfl, rfl, rfl, rfl, rfl, rfl, rfl, rfl, rfl, rfl, rfl, rfl, rfl, rfl, rfl, rfl, rfl, trivial⟩ (fun w9 hs => hs) (fun j hF4 => ?_)
          refine ac_seq (ac_seq (ac_region ?_))
          refine al_p (q_move rfl) ?_
          refine al_p (q_fieldAddr 3 rfl Tryz.runUnderlying29 rfl Tryz.sizeOf24 (by decide) rfl) (al_p (q_load (i := 4) rfl rfl rfl Tryz.isAgg24) (al_p (q_lenS rfl Tryz.runUnderlying24) (al_p (q_lss rfl rfl) (al_end (aq_then ?_)))))
          refine ac_cond rfl (fun h11 => ?_) (fun h11 => ?_)
          · have hjn : j < R.lc := by have := of_decide_eq_true h11; omega
            have hx4 := limP_get (M := M) (k := j) (by omega)
            refine ac_skip (aq_then (ac_seq (ac_block (ac_seq ?_))))
            refine ac_drawF 17 (.s (.s (.s (.s (.s .z))))) (by kernel_rfl) (by kernel_rfl) ?_
            refine ah_t 0 (fun w9 hs => (hs.front (.s (.s (.s (.s (.s (.z)))))))) rfl rfl (by kernel_rfl) (q_move rfl) (ah_t 1 (fun w9 hs => (hs.front (.s (.s (.s (.s (.s (.z)))))))) rfl rfl (by kernel_rfl) (q_move rfl) (ah_t 2 (fun w9 hs => (hs.front (.s (.s (.s (.s (.s (.z)))))))) rfl rfl (by kernel_rfl) (q_neq rfl rfl) (ah_t 3 (fun w9 hs => (hs.front (.s (.s (.s (.s (.s (.z)))))))) rfl rfl (by kernel_rfl) (q_move rfl) ?_)))
            refine ah_split 62 rfl (fun hb3 => ?_) (fun hb3 => ?_)
            · have hjk : j ≠ x.k := by simp at hb3; omega
              refine ah_t 4 (fun w9 hs => (hs.front (.s (.s (.s (.s (.s (.z)))))))) rfl rfl (by kernel_rfl) (q_loadAll (i := 4) rfl rfl Tryz.isAgg29 Tryz.sizeOf29 rfl) (ah_t 5 (fun w9 hs => (hs.front (.s (.s (.s (.s (.s (.z)))))))) rfl rfl (by kernel_rfl) (q_loadAll (i := 3) rfl rfl Tryz.isAgg32 Tryz.sizeOf32 rfl) (ah_t 6 (fun w9 hs => (hs.front (.s (.s (.s (.s (.s (.z)))))))) rfl rfl (by kernel_rfl) (q_move rfl) ?_))
              refine ah_t 7 (fun w9 hs => (hs.front (.s (.s (.s (.s (.s (.z)))))))) rfl rfl (by kernel_rfl) (q_fieldAddr 3 rfl Tryz.runUnderlying29 rfl Tryz.sizeOf24 (by decide) rfl) (ah_t 8 (fun w9 hs => (hs.front (.s (.s (.s (.s (.s (.z)))))))) rfl rfl (by kernel_rfl) (q_load (i := 4) rfl rfl rfl Tryz.isAgg24) (ah_t 9 (fun w9 hs => (hs.front (.s (.s (.s (.s (.s (.z)))))))) rfl rfl (by kernel_rfl) (q_move rfl) ?_))
              refine ah_t 10 (fun w9 hs => (hs.front (.s (.s (.s (.s (.s (.z)))))))) rfl rfl (by kernel_rfl) (q_indexAddrA (i := j) (o31 + j * 2 + 0) hA3 rfl rfl rfl (by omega) Tryz.runUnderlying24 Tryz.sizeOf36 rfl) (ah_t 11 (fun w9 hs => (hs.front (.s (.s (.s (.s (.s (.z)))))))) rfl rfl (by kernel_rfl) (q_loadXs (PointD.cells (limP M j)) rfl Tryz.isAgg36 Tryz.sizeOf36 (fun w9 hs j9 v9 h9 => by rw [addr_add]; exact (hs.below.cell (p := ⟨_, _, none⟩) hlt3).trans ((hget3 j _ hx4) j9 v9 h9)) rfl) ?_)
              refine ah_t 14 (fun w9 hs => (hs.front (.s (.s (.s (.s (.s (.z)))))))) rfl rfl (by kernel_rfl) (q_fieldAddr 0 rfl Tryz.runUnderlying52 rfl Tryz.sizeOf3 (by decide) rfl) (ah_t 15 (fun w9 hs => (hs.front (.s (.s (.s (.s (.s (.z)))))))) rfl rfl (by kernel_rfl) (q_load (i := 1) rfl rfl rfl Tryz.isAgg3) (ah_one 12 rfl (by kernel_rfl) (fun hok8 hcl8 => ?_)))
              refine al_call Tryz.call65 (.cons rfl (.cons rfl (.cons rfl (.cons rfl .nil)))) rfl rfl (fun w6 hs6 => ?_)
              refine (rflux_any R M Q C X nx cx xs (limP M j) 1000000 _ (hM.below hs6.below) (hC.below hs6.below) (hS.below hs6.below) hf hX ht).mono ?_
              rintro e u6 ⟨rfl, hb_6⟩
              refine ⟨_, rfl, hb_6, ?_⟩
              clear hs6
              refine al_end (ah_back hok8 hcl8 (fun w9 hs => ((hs.fewer 1 rfl).front (.s (.s (.s (.s (.s (.z)))))))) ?_)
              refine ah_t 13 (fun w9 hs => ((hs.fewer 1 rfl).front (.s (.s (.s (.s (.s (.z)))))))) rfl rfl (by kernel_rfl) (q_fieldV rfl Tryz.runUnderlying52 rfl Tryz.isAgg3 rfl) (ah_t 16 (fun w9 hs => ((hs.fewer 1 rfl).front (.s (.s (.s (.s (.s (.z)))))))) rfl rfl (by kernel_rfl) (q_gtr rfl rfl) (ah_t 17 (fun w9 hs => ((hs.fewer 1 rfl).front (.s (.s (.s (.s (.s (.z)))))))) rfl rfl (by kernel_rfl) (q_pickT rfl rfl) (ah_done (by kernel_rfl) ?_)))
              refine aq_then ?_
              refine ac_cond rfl (fun h12 => ?_) (fun h12 => ?_)
              · have hnx := suP_t (M := M) (C := C) (xs := xs) hjk (of_decide_eq_true h12)
                refine ac_region (al_p (q_assign rfl) (al_end (aq_inN (aq_then ?_))))
                refine ac_region (al_p (q_move rfl) ?_)
                refine al_p (q_add rfl rfl (by omega)) (al_p (q_assign rfl) (al_end (aq_then ?_)))
                skip
                refine aq_round (j + 1) (by omega) (by omega) ⟨rfl, rfl, rfl, rfl, rfl, rfl, rfl, rfl, rfl, rfl, rfl, (by rw [hnx]; rfl), rfl, rfl, rfl, rfl, rfl, rfl, rfl, rfl, rfl, rfl, rfl, rfl, rfl, rfl, rfl, rfl, rfl, rfl, rfl, rfl, rfl, rfl, trivial⟩ (fun w9 hs => (hs.fewer 1 rfl))
              · have hnx := suP_f (M := M) (C := C) (xs := xs) (k := x.k) (j := j) (Or.inr (by have := of_decide_eq_false h12; omega))
                refine ac_skip (aq_inN (aq_then (ac_region (al_p (q_move rfl) ?_))))
                refine al_p (q_add rfl rfl (by omega)) (al_p (q_assign rfl) (al_end (aq_then ?_)))
                skip
                refine aq_round (j + 1) (by omega) (by omega) ⟨rfl, rfl, rfl, rfl, rfl, rfl, rfl, rfl, rfl, rfl, rfl, (by rw [hnx]; rfl), rfl, rfl, rfl, rfl, rfl, rfl, rfl, rfl, rfl, rfl, rfl, rfl, rfl, rfl, rfl, rfl, rfl, rfl, rfl, rfl, rfl, rfl, trivial⟩ (fun w9 hs => (hs.fewer 1 rfl))
            · have hjk : j = x.k := by simp at hb3; omega
              have hnx := suP_f (M := M) (C := C) (xs := xs) (Or.inl hjk)
              refine ah_s 4 (fun w9 hs => (hs.front (.s (.s (.s (.s (.s (.z)))))))) rfl rfl (by kernel_rfl) (ah_s 5 (fun w9 hs => (hs.front (.s (.s (.s (.s (.s (.z)))))))) rfl rfl (by kernel_rfl) (ah_s 6 (fun w9 hs => (hs.front (.s (.s (.s (.s (.s (.z)))))))) rfl rfl (by kernel_rfl) (ah_s 7 (fun w9 hs => (hs.front (.s (.s (.s (.s (.s (.z)))))))) rfl rfl (by kernel_rfl) (ah_s 8 (fun w9 hs => (hs.front (.s (.s (.s (.s (.s (.z)))))))) rfl rfl (by kernel_rfl) ?_))))
              refine ah_s 9 (fun w9 hs => (hs.front (.s (.s (.s (.s (.s (.z)))))))) rfl rfl (by kernel_rfl) (ah_s 10 (fun w9 hs => (hs.front (.s (.s (.s (.s (.s (.z)))))))) rfl rfl (by kernel_rfl) (ah_s 11 (fun w9 hs => (hs.front (.s (.s (.s (.s (.s (.z)))))))) rfl rfl (by kernel_rfl) (ah_s 12 (fun w9 hs => (hs.front (.s (.s (.s (.s (.s (.z)))))))) rfl rfl (by kernel_rfl) (ah_s 13 (fun w9 hs => (hs.front (.s (.s (.s (.s (.s (.z)))))))) rfl rfl (by kernel_rfl) ?_))))
              refine ah_s 14 (fun w9 hs => (hs.front (.s (.s (.s (.s (.s (.z)))))))) rfl rfl (by kernel_rfl) (ah_s 15 (fun w9 hs => (hs.front (.s (.s (.s (.s (.s (.z)))))))) rfl rfl (by kernel_rfl) (ah_s 16 (fun w9 hs => (hs.front (.s (.s (.s (.s (.s (.z)))))))) rfl rfl (by kernel_rfl) (ah_t 17 (fun w9 hs => (hs.front (.s (.s (.s (.s (.s (.z)))))))) rfl rfl (by kernel_rfl) (q_pickF rfl rfl) (ah_done (by kernel_rfl) ?_))))
              refine aq_then (ac_condF rfl (ac_skip (aq_inN (aq_then ?_))))
              refine ac_region (al_p (q_move rfl) ?_)
              refine al_p (q_add rfl rfl (by omega)) (al_p (q_assign rfl) (al_end (aq_then ?_)))
              skip
              refine aq_round (j + 1) (by omega) (by omega) ⟨rfl, rfl, rfl, rfl, rfl, rfl, rfl, rfl, rfl, rfl, rfl, (by rw [hnx]; rfl), rfl, rfl, rfl, rfl, rfl, rfl, rfl, rfl, rfl, rfl, rfl, rfl, rfl, rfl, rfl, rfl, rfl, rfl, rfl, rfl, rfl, rfl, trivial⟩ (fun w9 hs => hs)
          · have hje : j = M.limits.length := by have := of_decide_eq_false h11; omega
            refine ac_exit (aq_thenE (aq_thenE (aq_hit (aq_then ?_))))
            refine ac_seq (ac_region ?_)
            refine al_p (q_move rfl) (al_end (aq_then ?_))
            refine ac_cond rfl (fun h13 => ?_) (fun h13 => ?_)
            · have hst : sureB M C xs x.k = true := by rw [hje] at h13; exact h13
              refine aq_swapT (.s (.s (.s (.s (.s (.z)))))) (.s (.s (.s (.s (.s (.z)))))) ?_
              refine ac_region (al_p (q_move rfl) (al_p (q_move rfl) (al_new (fun b => .slice (some ⟨b, 0, none⟩) 1 1) (r_buildSlice (.cons rfl .nil) (eqt_bs_int_1_0_ _ rfl)) rfl rfl rfl ?_)))
              intro b10
              refine al_grow (z := 1) (bytes := 8) (zv := (.int .i64 0)) (o := x.o1) (cs := (fiC (sureB M C xs) x.k)) (vs := [.int .i64 (x.k : Int)]) rfl rfl (.s (.s (.s (.s (.s (.s (.z))))))) hg1 (Sor.box (j := 0) rfl rfl rfl) Tryz.underlying30 (by kernel_rfl) rfl (by omega) (by decide) rfl rfl (fun o_5 g_5 => ?_)
              refine ⟨_, (.s (.s (.s (.s (.s (.s (.z))))))), ?_⟩
              refine al_p (q_assign rfl) (al_end (aq_inN (aq_then (ac_region ?_))))
              refine al_p (q_move rfl) ?_
              refine al_p (q_add rfl rfl (by omega)) (al_p (q_assign rfl) (al_end (aq_then ?_)))
              skip
              refine aq_round (⟨x.k + 1, (x.n1 + 1), (x.n2 + 1), o_5, o_4⟩) (by simp only; omega) ⟨by simp only; omega, ⟨by simp only; omega, by simp only; omega⟩, by simp only; rw [fi_t hst]; exact g_5, by simp only; rw [fi_t hmt]; exact g_4⟩ ⟨rfl, rfl, rfl, rfl, rfl, rfl, rfl, rfl, rfl, rfl, trivial⟩ (fun w9 hs => (by dsimp only; rw [fi_t hst, fi_t hmt]; exact ((hs.fewer 1 rfl).tail 3 rfl)))
            · have hsf : sureB M C xs x.k = false := by rw [hje] at h13; exact h13
              refine ac_skip (aq_inN (aq_then (aq_swapT (.s (.s (.s (.s (.s (.z)))))) (.s (.s (.s (.s (.s (.z)))))) ?_)))
              refine ac_region (al_p (q_move rfl) ?_)
              refine al_p (q_add rfl rfl (by omega)) (al_p (q_assign rfl) (al_end (aq_then ?_)))
              skip
              refine aq_round (⟨x.k + 1, x.n1, (x.n2 + 1), x.o1, o_4⟩) (by simp only; omega) ⟨by simp only; omega, ⟨by simp only; omega, by simp only; omega⟩, by simp only; rw [fi_f hsf]; exact hg1, by simp only; rw [fi_t hmt]; exact g_4⟩ ⟨rfl, rfl, rfl, rfl, rfl, rfl, rfl, rfl, rfl, rfl, trivial⟩ (fun w9 hs => (by dsimp only; rw [fi_f hsf, fi_t hmt]; exact ((hs.fewer 1 rfl).tail 2 rfl)))
        · have hmf : mayB M C xs x.k = false := decide_eq_false (by have := of_decide_eq_false h10; omega)
          refine ac_skip (aq_then (ac_seq (ac_region ?_)))
          refine al_p (q_assign rfl) (al_end (aq_then ?_))
          refine aq_keepL [2, 3, 4, 6, 7, 8, 9, 11, 12, 13, 14, 15, 27, 28, 29, 30, 31, 34, 35, 36, 37, 38, 39, 40, 41, 42, 43, 44, 45, 46, 47] (.cons rfl (.cons rfl (.cons rfl (.cons rfl (.cons rfl (.cons rfl (.cons rfl (.cons rfl (.cons rfl (.cons rfl (.cons rfl (.cons rfl (.cons rfl (.cons rfl (.cons rfl (.cons rfl (.cons rfl (.cons rfl (.cons rfl (.cons rfl (.cons rfl (.cons rfl (.cons rfl (.cons rfl (.cons rfl (.cons rfl (.cons rfl (.cons rfl (.cons rfl (.cons rfl (.cons rfl .nil))))))))))))))))))))))))))))))) ?_
          refine ac_seq (ac_seq (ac_region ?_))
          refine al_p (q_assign rfl) (al_end (aq_then ?_))
          refine ac_block ?_
          refine ac_loop (β := Nat) (fun j => j ≤ R.lc) (fun j => [(2, (.slice X nx cx)), (3, (.pointer (some ⟨b1, 0, none⟩))), (4, (.pointer (some ⟨b2, 0, none⟩))), (6, (.slice none 0 0)), (7, (.slice none 0 0)), (8, (.int .i64 0)), (9, (.pointer (some ⟨b3, 0, none⟩))), (11, (.slice (gA x.o1) x.n1 (gC x.o1))), (12, (.slice (gA x.o2) x.n2 (gC x.o2))), (13, (.int .i64 (x.k : Int))), (14, (.pointer (some ⟨b8, 0, none⟩))), (15, (.bool (decide (suP M C xs x.k j)))), (16, (.int .i64 (j : Int))), (27, (.int .i64 (x.k : Int))), (28, (.pointer (some ⟨b1, 3, none⟩))), (29, (.slice (R.C) R.lc R.cc)), (30, (.int .i64 (R.lc : Int))), (34, (.agg (mCs R M).toArray)), (35, (.agg (cCs Q).toArray)), (36, (.slice X nx cx)), (37, (.pointer (some ⟨b1, 3, none⟩))), (38, (.slice (R.C) R.lc R.cc)), (39, (.int .i64 (x.k : Int))), (40, (.pointer (some ⟨b31, o31 + x.k * 2 + 0, none⟩))), (41, (.agg #[.int .i64 (limP M x.k).r, .int .i64 (limP M x.k).z])), (42, (.agg #[.int .i64 (flS M C xs (limP M x.k)).lo, .int .i64 (flS M C xs (limP M x.k)).hi])), (43, (.pointer (some ⟨b8, 1, none⟩))), (44, (.int .i64 (flS M C xs (limP M x.k)).hi)), (45, (.pointer (some ⟨b3, 0, none⟩))), (46, (.int .i64 (bnS M C xs).lo))]) (fun _ => _) (fun j => (b8, _) :: (b3, _) :: (b2, _) :: (b1, _) :: (gt x.o1 (fiC (sureB M C xs) x.k) ++ (gt x.o2 (fiC (mayB M C xs) x.k) ++ ([])))) (fun j => R.lc - j) 0 (by omega) ⟨rfl, rfl, rfl, rfl, rfl, rfl, rfl, rfl, rfl, rfl, rfl, (by rw [decide_eq_true (show suP M C xs x.k 0 from fun j h => absurd h (Nat.not_lt_zero j))]; rfl), rfl, rfl, rfl, rfl, rfl, rfl, rfl, rfl, rfl, rfl, rfl, rfl, rfl, rfl, rfl, rfl, rfl, rfl, trivial⟩ (fun w9 hs => hs) (fun j hF5 => ?_)
          refine ac_seq (ac_seq (ac_region ?_))
          refine al_p (q_move rfl) ?_
          refine al_p (q_fieldAddr 3 rfl Tryz.runUnderlying29 rfl Tryz.sizeOf24 (by decide) rfl) (al_p (q_load (i := 3) rfl rfl rfl Tryz.isAgg24) (al_p (q_lenS rfl Tryz.runUnderlying24) (al_p (q_lss rfl rfl) (al_end (aq_then ?_)))))
          refine ac_cond rfl (fun h14 => ?_) (fun h14 => ?_)
          · have hjn : j < R.lc := by have := of_decide_eq_true h14; omega
            have hx4 := limP_get (M := M) (k := j) (by omega)
            refine ac_skip (aq_then (ac_seq (ac_block (ac_seq ?_))))
            refine ac_drawF 17 (.s (.s (.s (.s .z)))) (by kernel_rfl) (by kernel_rfl) ?_
            refine ah_t 0 (fun w9 hs => (hs.front (.s (.s (.s (.s (.z))))))) rfl rfl (by kernel_rfl) (q_move rfl) (ah_t 1 (fun w9 hs => (hs.front (.s (.s (.s (.s (.z))))))) rfl rfl (by kernel_rfl) (q_move rfl) (ah_t 2 (fun w9 hs => (hs.front (.s (.s (.s (.s (.z))))))) rfl rfl (by kernel_rfl) (q_neq rfl rfl) (ah_t 3 (fun w9 hs => (hs.front (.s (.s (.s (.s (.z))))))) rfl rfl (by kernel_rfl) (q_move rfl) ?_)))
            refine ah_split 62 rfl (fun hb4 => ?_) (fun hb4 => ?_)
            · have hjk : j ≠ x.k := by simp at hb4; omega
              refine ah_t 4 (fun w9 hs => (hs.front (.s (.s (.s (.s (.z))))))) rfl rfl (by kernel_rfl) (q_loadAll (i := 3) rfl rfl Tryz.isAgg29 Tryz.sizeOf29 rfl) (ah_t 5 (fun w9 hs => (hs.front (.s (.s (.s (.s (.z))))))) rfl rfl (by kernel_rfl) (q_loadAll (i := 2) rfl rfl Tryz.isAgg32 Tryz.sizeOf32 rfl) (ah_t 6 (fun w9 hs => (hs.front (.s (.s (.s (.s (.z))))))) rfl rfl (by kernel_rfl) (q_move rfl) ?_))
              refine ah_t 7 (fun w9 hs => (hs.front (.s (.s (.s (.s (.z))))))) rfl rfl (by kernel_rfl) (q_fieldAddr 3 rfl Tryz.runUnderlying29 rfl Tryz.sizeOf24 (by decide) rfl) (ah_t 8 (fun w9 hs => (hs.front (.s (.s (.s (.s (.z))))))) rfl rfl (by kernel_rfl) (q_load (i := 3) rfl rfl rfl Tryz.isAgg24) (ah_t 9 (fun w9 hs => (hs.front (.s (.s (.s (.s (.z))))))) rfl rfl (by kernel_rfl) (q_move rfl) ?_))
              refine ah_t 10 (fun w9 hs => (hs.front (.s (.s (.s (.s (.z))))))) rfl rfl (by kernel_rfl) (q_indexAddrA (i := j) (o31 + j * 2 + 0) hA3 rfl rfl rfl (by omega) Tryz.runUnderlying24 Tryz.sizeOf36 rfl) (ah_t 11 (fun w9 hs => (hs.front (.s (.s (.s (.s (.z))))))) rfl rfl (by kernel_rfl) (q_loadXs (PointD.cells (limP M j)) rfl Tryz.isAgg36 Tryz.sizeOf36 (fun w9 hs j9 v9 h9 => by rw [addr_add]; exact (hs.below.cell (p := ⟨_, _, none⟩) hlt3).trans ((hget3 j _ hx4) j9 v9 h9)) rfl) ?_)
              refine ah_t 14 (fun w9 hs => (hs.front (.s (.s (.s (.s (.z))))))) rfl rfl (by kernel_rfl) (q_fieldAddr 0 rfl Tryz.runUnderlying52 rfl Tryz.sizeOf3 (by decide) rfl) (ah_t 15 (fun w9 hs => (hs.front (.s (.s (.s (.s (.z))))))) rfl rfl (by kernel_rfl) (q_load (i := 0) rfl rfl rfl Tryz.isAgg3) (ah_one 12 rfl (by kernel_rfl) (fun hok9 hcl9 => ?_)))
              refine al_call Tryz.call65 (.cons rfl (.cons rfl (.cons rfl (.cons rfl .nil)))) rfl rfl (fun w7 hs7 => ?_)
              refine (rflux_any R M Q C X nx cx xs (limP M j) 1000000 _ (hM.below hs7.below) (hC.below hs7.below) (hS.below hs7.below) hf hX ht).mono ?_
              rintro e u7 ⟨rfl, hb_7⟩
              refine ⟨_, rfl, hb_7, ?_⟩
              clear hs7
              refine al_end (ah_back hok9 hcl9 (fun w9 hs => ((hs.fewer 1 rfl).front (.s (.s (.s (.s (.z))))))) ?_)
              refine ah_t 13 (fun w9 hs => ((hs.fewer 1 rfl).front (.s (.s (.s (.s (.z))))))) rfl rfl (by kernel_rfl) (q_fieldV rfl Tryz.runUnderlying52 rfl Tryz.isAgg3 rfl) (ah_t 16 (fun w9 hs => ((hs.fewer 1 rfl).front (.s (.s (.s (.s (.z))))))) rfl rfl (by kernel_rfl) (q_gtr rfl rfl) (ah_t 17 (fun w9 hs => ((hs.fewer 1 rfl).front (.s (.s (.s (.s (.z))))))) rfl rfl (by kernel_rfl) (q_pickT rfl rfl) (ah_done (by kernel_rfl) ?_)))
              refine aq_then ?_
              refine ac_cond rfl (fun h15 => ?_) (fun h15 => ?_)
              · have hnx := suP_t (M := M) (C := C) (xs := xs) hjk (of_decide_eq_true h15)
                refine ac_region (al_p (q_assign rfl) (al_end (aq_inN (aq_then ?_))))
                refine ac_region (al_p (q_move rfl) ?_)
                refine al_p (q_add rfl rfl (by omega)) (al_p (q_assign rfl) (al_end (aq_then ?_)))
                skip
                refine aq_round (j + 1) (by omega) (by omega) ⟨rfl, rfl, rfl, rfl, rfl, rfl, rfl, rfl, rfl, rfl, rfl, (by rw [hnx]; rfl), rfl, rfl, rfl, rfl, rfl, rfl, rfl, rfl, rfl, rfl, rfl, rfl, rfl, rfl, rfl, rfl, rfl, rfl, trivial⟩ (fun w9 hs => (hs.fewer 1 rfl))
              · have hnx := suP_f (M := M) (C := C) (xs := xs) (k := x.k) (j := j) (Or.inr (by have := of_decide_eq_false h15; omega))
                refine ac_skip (aq_inN (aq_then (ac_region (al_p (q_move rfl) ?_))))
                refine al_p (q_add rfl rfl (by omega)) (al_p (q_assign rfl) (al_end (aq_then ?_)))
                skip
                refine aq_round (j + 1) (by omega) (by omega) ⟨rfl, rfl, rfl, rfl, rfl, rfl, rfl, rfl, rfl, rfl, rfl, (by rw [hnx]; rfl), rfl, rfl, rfl, rfl, rfl, rfl, rfl, rfl, rfl, rfl, rfl, rfl, rfl, rfl, rfl, rfl, rfl, rfl, trivial⟩ (fun w9 hs => (hs.fewer 1 rfl))
            · have hjk : j = x.k := by simp at hb4; omega
              have hnx := suP_f (M := M) (C := C) (xs := xs) (Or.inl hjk)
              refine ah_s 4 (fun w9 hs => (hs.front (.s (.s (.s (.s (.z))))))) rfl rfl (by kernel_rfl) (ah_s 5 (fun w9 hs => (hs.front (.s (.s (.s (.s (.z))))))) rfl rfl (by kernel_rfl) (ah_s 6 (fun w9 hs => (hs.front (.s (.s (.s (.s (.z))))))) rfl rfl (by kernel_rfl) (ah_s 7 (fun w9 hs => (hs.front (.s (.s (.s (.s (.z))))))) rfl rfl (by kernel_rfl) (ah_s 8 (fun w9 hs => (hs.front (.s (.s (.s (.s (.z))))))) rfl rfl (by kernel_rfl) ?_))))
              refine ah_s 9 (fun w9 hs => (hs.front (.s (.s (.s (.s (.z))))))) rfl rfl (by kernel_rfl) (ah_s 10 (fun w9 hs => (hs.front (.s (.s (.s (.s (.z))))))) rfl rfl (by kernel_rfl) (ah_s 11 (fun w9 hs => (hs.front (.s (.s (.s (.s (.z))))))) rfl rfl (by kernel_rfl) (ah_s 12 (fun w9 hs => (hs.front (.s (.s (.s (.s (.z))))))) rfl rfl (by kernel_rfl) (ah_s 13 (fun w9 hs => (hs.front (.s (.s (.s (.s (.z))))))) rfl rfl (by kernel_rfl) ?_))))
              refine ah_s 14 (fun w9 hs => (hs.front (.s (.s (.s (.s (.z))))))) rfl rfl (by kernel_rfl) (ah_s 15 (fun w9 hs => (hs.front (.s (.s (.s (.s (.z))))))) rfl rfl (by kernel_rfl) (ah_s 16 (fun w9 hs => (hs.front (.s (.s (.s (.s (.z))))))) rfl rfl (by kernel_rfl) (ah_t 17 (fun w9 hs => (hs.front (.s (.s (.s (.s (.z))))))) rfl rfl (by kernel_rfl) (q_pickF rfl rfl) (ah_done (by kernel_rfl) ?_))))
              refine aq_then (ac_condF rfl (ac_skip (aq_inN (aq_then ?_))))
              refine ac_region (al_p (q_move rfl) ?_)
              refine al_p (q_add rfl rfl (by omega)) (al_p (q_assign rfl) (al_end (aq_then ?_)))
              skip
              refine aq_round (j + 1) (by omega) (by omega) ⟨rfl, rfl, rfl, rfl, rfl, rfl, rfl, rfl, rfl, rfl, rfl, (by rw [hnx]; rfl), rfl, rfl, rfl, rfl, rfl, rfl, rfl, rfl, rfl, rfl, rfl, rfl, rfl, rfl, rfl, rfl, rfl, rfl, trivial⟩ (fun w9 hs => hs)
          · have hje : j = M.limits.length := by have := of_decide_eq_false h14; omega
            refine ac_exit (aq_thenE (aq_thenE (aq_hit (aq_then ?_))))
            refine ac_seq (ac_region ?_)
            refine al_p (q_move rfl) (al_end (aq_then ?_))
            refine ac_cond rfl (fun h16 => ?_) (fun h16 => ?_)
            · have hst : sureB M C xs x.k = true := by rw [hje] at h16; exact h16
              refine ac_region (al_p (q_move rfl) (al_p (q_move rfl) (al_new (fun b => .slice (some ⟨b, 0, none⟩) 1 1) (r_buildSlice (.cons rfl .nil) (eqt_bs_int_1_0_ _ rfl)) rfl rfl rfl ?_)))
              intro b11
              refine al_grow (z := 1) (bytes := 8) (zv := (.int .i64 0)) (o := x.o1) (cs := (fiC (sureB M C xs) x.k)) (vs := [.int .i64 (x.k : Int)]) rfl rfl (.s (.s (.s (.s (.s (.z)))))) hg1 (Sor.box (j := 0) rfl rfl rfl) Tryz.underlying30 (by kernel_rfl) rfl (by omega) (by decide) rfl rfl (fun o_6 g_6 => ?_)
              refine ⟨_, (.s (.s (.s (.s (.s (.z)))))), ?_⟩
              refine al_p (q_assign rfl) (al_end (aq_inN (aq_then (ac_region ?_))))
              refine al_p (q_move rfl) ?_
              refine al_p (q_add rfl rfl (by omega)) (al_p (q_assign rfl) (al_end (aq_then ?_)))
              skip
              refine aq_round (⟨x.k + 1, (x.n1 + 1), x.n2, o_6, x.o2⟩) (by simp only; omega) ⟨by simp only; omega, ⟨by simp only; omega, by simp only; omega⟩, by simp only; rw [fi_t hst]; exact g_6, by simp only; rw [fi_f hmf]; exact hg2⟩ ⟨rfl, rfl, rfl, rfl, rfl, rfl, rfl, rfl, rfl, rfl, trivial⟩ (fun w9 hs => (by dsimp only; rw [fi_t hst, fi_f hmf]; exact ((hs.fewer 1 rfl).tail 2 rfl)))
            · have hsf : sureB M C xs x.k = false := by rw [hje] at h16; exact h16
              refine ac_skip (aq_inN (aq_then (ac_region (al_p (q_move rfl) ?_))))
              refine al_p (q_add rfl rfl (by omega)) (al_p (q_assign rfl) (al_end (aq_then ?_)))
              skip
              refine aq_round (⟨x.k + 1, x.n1, x.n2, x.o1, x.o2⟩) (by simp only; omega) ⟨by simp only; omega, ⟨by simp only; omega, by simp only; omega⟩, by simp only; rw [fi_f hsf]; exact hg1, by simp only; rw [fi_f hmf]; exact hg2⟩ ⟨rfl, rfl, rfl, rfl, rfl, rfl, rfl, rfl, rfl, rfl, trivial⟩ (fun w9 hs => (by dsimp only; rw [fi_f hsf, fi_f hmf]; exact ((hs.fewer 1 rfl).tail 1 rfl)))
    · have hke : x.k = M.limits.length := by have := of_decide_eq_false h2; omega
      refine ac_exit (aq_thenE (aq_thenE (aq_hit (aq_then ?_))))
      refine ac_seq (ac_region ?_)
      refine al_p (q_move rfl) (al_p (q_move rfl) (al_p (q_assign rfl) (al_p (q_assign rfl) (al_p (q_assign rfl) ?_))))
      refine al_end (aq_then ?_)
      refine ac_ret (retR Tryz.results28 (.tmp rfl (.tmp rfl (.tmp rfl .nil))) .two (fun w9 hs => ?_))
      rw [hok]; unfold tlL; rw [if_pos (bnV_ok hok), if_pos (bnV_ok hok)]; exact ⟨_, _, _, _, _, _, rfl, (by have h9 := hs.grown (enc := intCells) (o := x.o1) (cs := fiC (sureB M C xs) x.k) (zs := tcL (sureB M C xs) x.k) (fun _ => rfl) (fun y hy => by simp [hy]) hg1 rfl (by rw [← fiC_len]; have := hg1.1; omega); rw [hke] at h9; exact h9), (by have h9 := hs.grown (enc := intCells) (o := x.o2) (cs := fiC (mayB M C xs) x.k) (zs := tcL (mayB M C xs) x.k) (fun _ => rfl) (fun y hy => by simp [hy]) hg2 rfl (by rw [← fiC_len]; have := hg2.1; omega); rw [hke] at h9; exact h9), hs.below⟩
end
end Go.Proofs.YtogcjgjhmlifgaaGreat
