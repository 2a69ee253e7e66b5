import Derived.Test.YtogcjgjhmlifgaaGreatOAD
import Derived.Test.YtogcjgjhmlifgaaGreatOAU
import Derived.Test.YtogcjgjhmlifgaaGreatOAW
import Derived.Test.YtogcjgjhmlifgaaGreatRows
import Derived.KernelRfl
import Derived.Laws.StructEq
namespace Go.Proofs.YtogcjgjhmlifgaaGreat
set_option linter.unusedVariables false
set_option linter.unusedSimpArgs false
section
open Go.RowKit
structure Quo (t a d : Int) : Prop where
  t0 : 0 ≤ t
  t1 : t ≤ 1000000
  a0 : 0 ≤ a
  a1 : a ≤ 1000000000000000
  d0 : 1 ≤ d
  d1 : d ≤ 1000000000000000000
  ad : a ≤ d
theorem Quo.facts {t a d : Int} (h : Quo t a d) : 0 ≤ t * a ∧ t * a ≤ 1000000000000000000000 ∧ hi64 (t * a) < d ∧ 0 ≤ t * a / d ∧ t * a / d ≤ t ∧ 0 ≤ t * a % d ∧ t * a % d < d ∧ hi64 (t * a) * 18446744073709551616 + lo64 (t * a) = t * a := by
  obtain ⟨t0, t1, a0, a1, d0, d1, ad⟩ := h
  have h0 := Int.mul_nonneg t0 a0
  have h1 := mulN_bd ⟨t0, t1⟩ ⟨a0, a1⟩
  have h2 := mulN_bd ⟨t0, t1⟩ ⟨a0, ad⟩
  have h3 : t * a / d ≤ t := Int.ediv_le_of_le_mul (by omega) (Int.mul_le_mul_of_nonneg_left ad t0)
  have h4 := Int.ediv_nonneg h0 (show 0 ≤ d by omega)
  have h5 := Int.emod_nonneg (t * a) (show d ≠ 0 by omega)
  have h6 := Int.emod_lt_of_pos (t * a) (show 0 < d by omega)
  generalize t * a = p at *
  refine ⟨h0, by omega, ?_, h4, h3, h5, h6, ?_⟩
  · unfold hi64; omega
  · unfold hi64 lo64; omega
theorem div64_ret {t a d : Int} (h : Quo t a d) (w : World) : Calls Tryz.prog 175 #[.int .u64 (hi64 (t * a)), .int .u64 (lo64 (t * a)), .int .u64 d] w (Ret (.tuple #[.int .u64 (t * a / d), .int .u64 (t * a % d)]) w) := by
  obtain ⟨g1, g2, g3, g4, g5, g6, g7, g8⟩ := h.facts
  have hl := lo64_u (t * a)
  have h9 := div64_any (hi64 (t * a)) (lo64 (t * a)) d w (hi64_nonneg _) g3 (lo64_nonneg _) hl.2 h.d0 h.d1
  rw [g8] at h9
  exact h9.mono fun e w' ⟨e1, n, e2⟩ => ⟨e1, by rw [e2]; exact Below_drewN (Below.refl _ _) n⟩
theorem eqk_bl_equillong_0_1 (a0 a1 : Value) (ha0 : a0.oneCell' = true) (ha1 : a1.oneCell' = true) : ∀ w, (Instr.build 153 #[(0, a0), (1, a1)]).run Tryz.prog w = .ok (.agg #[a0, a1]) w := by
  have ea0 : a0.cells = #[a0] := cells_one ha0
  have ea1 : a1.cells = #[a1] := cells_one ha1
  intro w; simp [Instr.build, Instr.fill, cells_agg, Tryz.runUnderlying153, Tryz.zeroValue153, Tryz.sizeOf151, ea0, ea1]
set_option maxRecDepth 100000 in
theorem product_any (t a : Int) (w : World) (t0 : 0 ≤ t) (t1 : t ≤ 1000000) (a0 : 0 ≤ a) (a1 : a ≤ 1000000000000000) : Calls Tryz.prog 123 #[(.int .i64 t), (.int .i64 a)] w (Ret (.agg #[.int .u64 (hi64 (t * a)), .int .u64 (lo64 (t * a))]) w) := by
  refine calls_ax (vs := [(.int .i64 t), (.int .i64 a)]) Tryz.func123 rfl rfl ?_
  refine ac_seq (ac_region ?_)
  refine al_new (fun b => .pointer (some ⟨b, 0, none⟩)) (r_alloc Tryz.zeroValue153 rfl) rfl rfl rfl ?_
  intro b1
  refine al_end (aq_then ?_)
  refine ac_seq (ac_region ?_)
  refine al_p (q_move rfl) ?_
  refine al_p (q_convI rfl Tryz.underlying3 Tryz.underlying151 (by go_arith)) (al_p (q_move rfl) ?_)
  refine al_p (q_convI rfl Tryz.underlying3 Tryz.underlying151 (by go_arith)) (al_call Tryz.call161 (.cons rfl (.cons rfl .nil)) rfl rfl (fun w1 hs1 => ?_))
  refine (mul64_any t a t0 a0 (by omega) a1 _).mono ?_
  rintro e u1 ⟨rfl, rfl⟩
  refine ⟨_, rfl, (Below.refl _ _), ?_⟩
  clear hs1
  refine al_p (q_move rfl) (al_p (q_extract rfl rfl) (al_p (q_extract rfl rfl) (al_p (q_assign rfl) (al_p (q_assign rfl) ?_))))
  refine al_end (aq_then ?_)
  refine ac_seq (ac_region ?_)
  refine al_p (q_move rfl) (al_p (q_move rfl) (al_p (q_build (.cons rfl (.cons rfl .nil)) (eqk_bl_equillong_0_1 _ _ rfl rfl)) (al_storeAll (i := 0) rfl rfl rfl rfl Tryz.sizeOf153 rfl rfl .k0 rfl (al_end (aq_then ?_)))))
  refine ac_ret (retR Tryz.results123 (.agg (i := 0) rfl rfl Tryz.isAgg153 Tryz.sizeOf153 rfl .nil) .one (fun w9 hs => ?_))
  exact ⟨rfl, hs.below⟩
set_option maxRecDepth 100000 in
theorem over9_any (t a d : Int) (w : World) (hq : Quo t a d) : Calls Tryz.prog 162 #[(.agg #[.int .u64 (hi64 (t * a)), .int .u64 (lo64 (t * a))]), (.int .i64 d)] w (Ret (.tuple #[.int .i64 (t * a / d), .int .i64 (t * a % d)]) w) := by
  obtain ⟨g1, g2, g3, g4, g5, g6, g7, g8⟩ := hq.facts
  obtain ⟨t0, t1, a0, a1, d0, d1, ad⟩ := hq
  refine calls_ax (vs := [(.agg #[.int .u64 (hi64 (t * a)), .int .u64 (lo64 (t * a))]), (.int .i64 d)]) Tryz.func162 rfl rfl ?_
  refine ac_seq (ac_region ?_)
  refine al_new (fun b => .pointer (some ⟨b, 0, none⟩)) (r_box rfl rfl) rfl rfl rfl ?_
  intro b1
  refine al_p (q_assign rfl) (al_p (q_assign rfl) (al_end (aq_then ?_)))
  refine ac_seq (ac_region ?_)
  refine al_p (q_fieldAddr 0 rfl Tryz.runUnderlying153 rfl Tryz.sizeOf151 (by decide) rfl) (al_p (q_load (i := 0) rfl rfl rfl Tryz.isAgg151) ?_)
  refine al_p (q_fieldAddr 1 rfl Tryz.runUnderlying153 rfl Tryz.sizeOf151 (by decide) rfl) (al_p (q_load (i := 0) rfl rfl rfl Tryz.isAgg151) (al_p (q_move rfl) ?_))
  refine al_p (q_convI rfl Tryz.underlying3 Tryz.underlying151 (by go_arith)) (al_call Tryz.call175 (.cons rfl (.cons rfl (.cons rfl .nil))) rfl rfl (fun w1 hs1 => ?_))
  refine (div64_ret ⟨t0, t1, a0, a1, d0, d1, ad⟩ _).mono ?_
  rintro e u1 ⟨rfl, hb_1⟩
  refine ⟨_, rfl, hb_1, ?_⟩
  clear hs1
  refine al_p (q_move rfl) (al_p (q_extract rfl rfl) (al_p (q_extract rfl rfl) (al_p (q_assign rfl) (al_p (q_assign rfl) ?_))))
  refine al_end (aq_then ?_)
  refine ac_seq (ac_region ?_)
  refine al_p (q_move rfl) ?_
  refine al_p (q_convI rfl Tryz.underlying151 Tryz.underlying3 (by go_arith)) (al_p (q_move rfl) ?_)
  refine al_p (q_convI rfl Tryz.underlying151 Tryz.underlying3 (by go_arith)) (al_p (q_assign rfl) (al_p (q_assign rfl) (al_end (aq_then ?_))))
  refine ac_ret (ret2 Tryz.results162 rfl rfl (fun w9 hs => ?_))
  exact ⟨rfl, hs.below⟩
set_option maxRecDepth 100000 in
theorem down_any (t a d : Int) (w : World) (hq : Quo t a d) : Calls Tryz.prog 124 #[(.agg #[.int .u64 (hi64 (t * a)), .int .u64 (lo64 (t * a))]), (.int .i64 d)] w (Ret (.int .i64 (t * a / d)) w) := by
  obtain ⟨g1, g2, g3, g4, g5, g6, g7, g8⟩ := hq.facts
  obtain ⟨t0, t1, a0, a1, d0, d1, ad⟩ := hq
  refine calls_ax (vs := [(.agg #[.int .u64 (hi64 (t * a)), .int .u64 (lo64 (t * a))]), (.int .i64 d)]) Tryz.func124 rfl rfl ?_
  refine ac_seq (ac_region ?_)
  refine al_new (fun b => .pointer (some ⟨b, 0, none⟩)) (r_box rfl rfl) rfl rfl rfl ?_
  intro b1
  refine al_p (q_assign rfl) (al_end (aq_then ?_))
  refine ac_seq (ac_region ?_)
  refine al_p (q_loadAll (i := 0) rfl rfl Tryz.isAgg153 Tryz.sizeOf153 rfl) (al_p (q_move rfl) (al_call Tryz.call162 (.cons rfl (.cons rfl .nil)) rfl rfl (fun w1 hs1 => ?_)))
  refine (over9_any t a d _ ⟨t0, t1, a0, a1, d0, d1, ad⟩).mono ?_
  rintro e u1 ⟨rfl, hb_1⟩
  refine ⟨_, rfl, hb_1, ?_⟩
  clear hs1
  refine al_p (q_move rfl) (al_p (q_extract rfl rfl) (al_p (q_extract rfl rfl) (al_p (q_assign rfl) (al_p (q_assign rfl) ?_))))
  refine al_end (aq_then ?_)
  refine ac_seq (ac_region ?_)
  refine al_p (q_move rfl) (al_p (q_assign rfl) (al_end (aq_then ?_)))
  refine ac_ret (ret1 Tryz.results124 rfl (fun w9 hs => ?_))
  exact ⟨rfl, hs.below⟩
set_option maxRecDepth 100000 in
theorem up_any (t a d : Int) (w : World) (hq : Quo t a d) : Calls Tryz.prog 125 #[(.agg #[.int .u64 (hi64 (t * a)), .int .u64 (lo64 (t * a))]), (.int .i64 d)] w (Ret (.int .i64 (upQ (t * a) d)) w) := by
  obtain ⟨g1, g2, g3, g4, g5, g6, g7, g8⟩ := hq.facts
  obtain ⟨t0, t1, a0, a1, d0, d1, ad⟩ := hq
  refine calls_ax (vs := [(.agg #[.int .u64 (hi64 (t * a)), .int .u64 (lo64 (t * a))]), (.int .i64 d)]) Tryz.func125 rfl rfl ?_
  refine ac_seq (ac_region ?_)
  refine al_new (fun b => .pointer (some ⟨b, 0, none⟩)) (r_box rfl rfl) rfl rfl rfl ?_
  intro b1
  refine al_p (q_assign rfl) (al_end (aq_then ?_))
  refine ac_seq (ac_region ?_)
  refine al_p (q_loadAll (i := 0) rfl rfl Tryz.isAgg153 Tryz.sizeOf153 rfl) (al_p (q_move rfl) (al_call Tryz.call162 (.cons rfl (.cons rfl .nil)) rfl rfl (fun w1 hs1 => ?_)))
  refine (over9_any t a d _ ⟨t0, t1, a0, a1, d0, d1, ad⟩).mono ?_
  rintro e u1 ⟨rfl, hb_1⟩
  refine ⟨_, rfl, hb_1, ?_⟩
  clear hs1
  refine al_p (q_move rfl) (al_p (q_extract rfl rfl) (al_p (q_extract rfl rfl) (al_p (q_assign rfl) (al_p (q_assign rfl) ?_))))
  refine al_end (aq_then ?_)
  refine ac_seq (ac_seq (ac_region ?_))
  refine al_p (q_move rfl) (al_p (q_gtr rfl rfl) (al_end (aq_then ?_)))
  refine ac_cond rfl (fun h1 => ?_) (fun h1 => ?_)
  · have hu : upQ (t * a) d = t * a / d + 1 := if_pos (of_decide_eq_true h1)
    refine ac_seq (ac_region ?_)
    refine al_p (q_move rfl) ?_
    refine al_p (q_add rfl rfl (by omega)) (al_p (q_assign rfl) (al_end (aq_then ?_)))
    refine ac_ret (aq_thenR (ret1 Tryz.results125 rfl (fun w9 hs => ?_)))
    rw [hu]; exact ⟨rfl, hs.below⟩
  · have hu : upQ (t * a) d = t * a / d := if_neg (of_decide_eq_false h1)
    refine ac_skip (aq_then (ac_seq (ac_region ?_)))
    refine al_p (q_move rfl) (al_p (q_assign rfl) (al_end (aq_then ?_)))
    refine ac_ret (ret1 Tryz.results125 rfl (fun w9 hs => ?_))
    rw [hu]; exact ⟨rfl, hs.below⟩
theorem dotTo_sub {f g : Nat → Int} : ∀ n : Nat, dotTo (fun k => g k - f k) n = dotTo g n - dotTo f n
  | 0 => by simp [dotTo]
  | n + 1 => by simp only [dotTo]; rw [dotTo_sub n]; omega
theorem im_quo {M : MachD} {C : CurD} {t : Int} {xs : List SpanD} (hf : Fit2 M C) (hX : FitX M t xs) (t0 : 0 ≤ t) (ht : t ≤ 1000000) (hp : exLo M C xs ≠ 0) {k : Nat} (hk : k < cellN M) :
    Quo t (exA M C xs k).lo ((exA M C xs k).lo + exHi M C xs - (exA M C xs k).hi) ∧ Quo t (exA M C xs k).hi ((exA M C xs k).hi + exLo M C xs - (exA M C xs k).lo) := by
  have h1 := exA_bd hf hX ht k
  have h2 := exS_bd hf hX ht (n := cellN M) (Nat.le_refl _)
  have h3 := dotTo_one (f := fun k => (exA M C xs k).hi) (cellN M) k hk (fun j _ => by have := exA_bd hf hX ht j; omega)
  have h4 := dotTo_one (f := fun k => (exA M C xs k).lo) (cellN M) k hk (fun j _ => by have := exA_bd hf hX ht j; omega)
  have h5 := dotTo_one (f := fun k => (exA M C xs k).hi - (exA M C xs k).lo) (cellN M) k hk (fun j _ => by have := exA_bd hf hX ht j; omega)
  rw [dotTo_sub (f := fun k => (exA M C xs k).lo) (g := fun k => (exA M C xs k).hi)] at h5
  try dsimp only at h3
  try dsimp only at h4
  try dsimp only at h5
  unfold exLo exHi at *
  exact ⟨⟨t0, ht, by omega, by omega, by omega, by omega, by omega⟩, ⟨t0, ht, by omega, by omega, by omega, by omega, by omega⟩⟩
def imE (M : MachD) (C : CurD) (xs : List SpanD) : Int := if exLo M C xs = 0 then 8 else 0
def imR (M : MachD) (C : CurD) (t : Int) (xs : List SpanD) : List SpanD := if exLo M C xs = 0 then [] else imL M C t xs
theorem eqk_bl_apiSpan_0_1 (a0 a1 : Value) (ha0 : a0.oneCell' = true) (ha1 : a1.oneCell' = true) : ∀ w, (Instr.build 52 #[(0, a0), (1, a1)]).run Tryz.prog w = .ok (.agg #[a0, a1]) w := by
  have ea0 : a0.cells = #[a0] := cells_one ha0
  have ea1 : a1.cells = #[a1] := cells_one ha1
  intro w; simp [Instr.build, Instr.fill, cells_agg, Tryz.runUnderlying52, Tryz.zeroValue52, Tryz.sizeOf3, ea0, ea1]
set_option maxRecDepth 100000 in
theorem image_any (M : MachD) (C : CurD) (A A2 X : Option Addr) (c c2 nx cx : Nat) (xs : List SpanD) (t : Int) (w : World) (hf : Fit2 M C) (hX : FitX M t xs) (ht0 : 0 ≤ t) (ht : t ≤ 1000000) (hK : IsT 1 intCells w A (ptN M) (knL M C (ptA M) (ptN M))) (hI : IsT 1 intCells w A2 (ptN M * cellN M) (itL M (ptA M) (ptN M))) (hc2 : ptN M * cellN M ≤ c2) (hS : IsT 2 SpanD.cells w X nx xs) : Calls Tryz.prog 82 #[(.agg #[.slice A (ptN M) c, .int .i64 (cellN M : Int), .slice A2 (ptN M * cellN M) c2]), (.int .i64 t), (.slice X nx cx)] w (OutT 2 SpanD.cells w (imE M C xs) (imR M C t xs)) := by
  have hcn := cellN_eq hf.check
  have n1 := hS.1
  have n2 := hX.len
  have hlp := limits_pos hf.check
  have hlm := limits_most hf.check
  have hnp : nx < ptN M := by unfold ptN; omega
  have hpm : ptN M ≤ 80 := by unfold ptN; omega
  have n3 : nx = cellN M := by omega
  refine calls_ax (vs := [(.agg #[.slice A (ptN M) c, .int .i64 (cellN M : Int), .slice A2 (ptN M * cellN M) c2]), (.int .i64 t), (.slice X nx cx)]) Tryz.func82 rfl rfl ?_
  refine ac_seq (ac_region ?_)
  refine al_new (fun b => .pointer (some ⟨b, 0, none⟩)) (r_box rfl rfl) rfl rfl rfl ?_
  intro b1
  refine al_p (q_assign rfl) (al_p (q_assign rfl) (al_end (aq_then ?_)))
  refine ac_seq (ac_region ?_)
  refine al_p (q_loadAll (i := 0) rfl rfl Tryz.isAgg97 Tryz.sizeOf97 rfl) (al_p (q_move rfl) (al_call Tryz.call122 (.cons rfl (.cons rfl .nil)) rfl rfl (fun w1 hs1 => ?_)))
  refine (excesses_any M C A A2 X c c2 nx cx xs t _ hf hX ht (hK.below hs1.below) (hI.below hs1.below) hc2 (hS.below hs1.below)).mono ?_
  rintro e u1 ⟨A7, c7, rfl, k7_, hb_1⟩
  refine ⟨_, rfl, hb_1, ?_⟩
  clear hs1
  refine al_p (q_move rfl) (al_p (q_extract rfl rfl) (al_p (q_extract rfl rfl) (al_new (fun b => .pointer (some ⟨b, 0, none⟩)) (r_alloc Tryz.zeroValue52 rfl) rfl rfl rfl ?_)))
  intro b2
  refine al_p (q_assign rfl) (al_storeAll (i := 0) rfl rfl rfl rfl Tryz.sizeOf52 rfl rfl .k0 rfl (al_end (aq_then ?_)))
  refine ac_seq (ac_seq (ac_region ?_))
  refine al_p (q_fieldAddr 0 rfl Tryz.runUnderlying52 rfl Tryz.sizeOf3 (by decide) rfl) (al_p (q_load (i := 0) rfl rfl rfl Tryz.isAgg3) (al_p (q_eql rfl rfl) (al_end (aq_then ?_))))
  refine ac_cond rfl (fun h1 => ?_) (fun h1 => ?_)
  · have h0 : exLo M C xs = 0 := by simpa using h1
    have hE : imE M C xs = 8 := if_pos h0
    have hR : imR M C t xs = [] := if_pos h0
    refine ac_seq (ac_region ?_)
    refine al_p (q_assign rfl) (al_p (q_assign rfl) (al_end (aq_then ?_)))
    refine ac_ret (aq_thenR (ret2 Tryz.results82 rfl rfl (fun w9 hs => ?_)))
    rw [hE, hR]; exact OutT.nil hs.below
  · have h0 : exLo M C xs ≠ 0 := by simpa using h1
    have hE : imE M C xs = 0 := if_neg h0
    have hR : imR M C t xs = imL M C t xs := if_neg h0
    refine ac_skip (aq_then (ac_seq (ac_region ?_)))
    refine al_p (q_move rfl) (al_p (q_lenS rfl Tryz.runUnderlying45) ?_)
    refine al_makeAgg (n := nx) (bytes := 16) (zv := (.agg #[.int .i64 0, .int .i64 0])) [(.int .i64 0), (.int .i64 0)] rfl rfl rfl Tryz.underlying45 (by kernel_rfl) rfl rfl rfl (by omega) (by decide) rfl rfl ?_
    intro b3
    refine al_p (q_assign rfl) (al_end (aq_then ?_))
    refine ac_seq (ac_seq (ac_region ?_))
    refine al_p (q_move rfl) (al_p (q_lenS rfl Tryz.runUnderlying45) (al_p (q_move rfl) (al_end (aq_then ?_))))
    refine ac_block ?_
    refine ac_loop (β := Nat) (fun k => k ≤ nx) (fun k => [(1, (.int .i64 t)), (6, (.slice none 0 0)), (7, (.int .i64 0)), (9, (.pointer (some ⟨b2, 0, none⟩))), (10, (.slice (some ⟨b3, 0, none⟩) (nx) (nx))), (25, (.slice A7 nx c7)), (26, (.int .i64 (nx : Int))), (27, (.int .i64 (k : Int)))]) (fun _ => _) (fun k => [(b3, .cells (spmix nx k (imA M C t xs))), (b2, _), (b1, _)]) (fun k => nx - k) 0 (by omega) ⟨rfl, rfl, rfl, rfl, rfl, rfl, rfl, rfl, trivial⟩ (fun w9 hs => (by rw [show spmix nx 0 (imA M C t xs) = (List.range nx).flatMap (fun _ => [.int .i64 0, .int .i64 0]) from mixF_zero _ _ _]; exact hs)) (fun k hF1 => ?_)
    refine ac_seq (ac_region ?_)
    refine al_p (q_lss rfl rfl) (al_end (aq_then ?_))
    refine ac_seq ?_
    refine ac_cond rfl (fun h2 => ?_) (fun h2 => ?_)
    · have hkn : k < nx := by have := of_decide_eq_true h2; omega
      have hq := im_quo hf hX ht0 ht h0 (k := k) (by omega)
      have b1 := exA_bd hf hX ht k
      have b2 := exS_bd hf hX ht (n := cellN M) (Nat.le_refl _)
      have b3 := hq.1.d1
      have b4 := hq.2.d1
      have b5 := hq.1.d0
      have b6 := hq.2.d0
      have b7 : exLo M C xs = dotTo (fun k => (exA M C xs k).lo) (cellN M) := rfl
      have b8 : exHi M C xs = dotTo (fun k => (exA M C xs k).hi) (cellN M) := rfl
      obtain ⟨b11, o11, hA1, hlt1, hget1⟩ := k7_.isT.2 (by omega)
      have hx1 := lst_get (exA M C xs) hkn
      refine ac_skip (aq_then (ac_seq (ac_block (ac_seq (ac_region ?_)))))
      refine al_p (q_move rfl) ?_
      refine al_p (q_indexAddrA (i := k) (o11 + k * 2 + 0) hA1 rfl rfl rfl (by omega) Tryz.runUnderlying45 Tryz.sizeOf52 rfl) (al_p (q_loadXs (SpanD.cells (exA M C xs k)) rfl Tryz.isAgg52 Tryz.sizeOf52 (fun w9 hs j9 v9 h9 => by rw [addr_add]; exact (cell_blkx ((hs.snap _ _ (.head _)).2.2.2.1 b11 (k7_.new _ _ hA1) hlt1)).trans ((hget1 k _ hx1) j9 v9 h9)) rfl) (al_new (fun b => .pointer (some ⟨b, 0, none⟩)) (r_alloc Tryz.zeroValue52 rfl) rfl rfl rfl ?_))
      intro b4
      refine al_p (q_assign rfl) (al_storeAll (i := 0) rfl rfl rfl rfl Tryz.sizeOf52 rfl rfl .k0 rfl (al_end (aq_then ?_)))
      refine ac_draw 30 (by kernel_rfl) (by kernel_rfl) ?_
      refine ah_t 0 (fun w9 hs => hs) rfl rfl (by kernel_rfl) (q_move rfl) (ah_t 1 (fun w9 hs => hs) rfl rfl (by kernel_rfl) (q_move rfl) (ah_t 2 (fun w9 hs => hs) rfl rfl (by kernel_rfl) (q_move rfl) ?_))
      refine ah_t 3 (fun w9 hs => hs) rfl rfl (by kernel_rfl) (q_fieldAddr 0 rfl Tryz.runUnderlying52 rfl Tryz.sizeOf3 (by decide) rfl) (ah_t 4 (fun w9 hs => hs) rfl rfl (by kernel_rfl) (q_load (i := 0) rfl rfl rfl Tryz.isAgg3) ?_)
      refine ah_t 6 (fun w9 hs => hs) rfl rfl (by kernel_rfl) (q_fieldAddr 0 rfl Tryz.runUnderlying52 rfl Tryz.sizeOf3 (by decide) rfl) (ah_t 7 (fun w9 hs => hs) rfl rfl (by kernel_rfl) (q_load (i := 0) rfl rfl rfl Tryz.isAgg3) ?_)
      refine ah_t 8 (fun w9 hs => hs) rfl rfl (by kernel_rfl) (q_fieldAddr 1 rfl Tryz.runUnderlying52 rfl Tryz.sizeOf3 (by decide) rfl) (ah_t 9 (fun w9 hs => hs) rfl rfl (by kernel_rfl) (q_load (i := 2) rfl rfl rfl Tryz.isAgg3) ?_)
      refine ah_t 10 (fun w9 hs => hs) rfl rfl (by kernel_rfl) (q_add rfl rfl (by omega)) ?_
      refine ah_t 11 (fun w9 hs => hs) rfl rfl (by kernel_rfl) (q_fieldAddr 1 rfl Tryz.runUnderlying52 rfl Tryz.sizeOf3 (by decide) rfl) (ah_t 12 (fun w9 hs => hs) rfl rfl (by kernel_rfl) (q_load (i := 0) rfl rfl rfl Tryz.isAgg3) ?_)
      refine ah_t 13 (fun w9 hs => hs) rfl rfl (by kernel_rfl) (q_sub rfl rfl (by omega)) (ah_t 15 (fun w9 hs => hs) rfl rfl (by kernel_rfl) (q_move rfl) ?_)
      refine ah_t 16 (fun w9 hs => hs) rfl rfl (by kernel_rfl) (q_fieldAddr 1 rfl Tryz.runUnderlying52 rfl Tryz.sizeOf3 (by decide) rfl) (ah_t 17 (fun w9 hs => hs) rfl rfl (by kernel_rfl) (q_load (i := 0) rfl rfl rfl Tryz.isAgg3) ?_)
      refine ah_t 19 (fun w9 hs => hs) rfl rfl (by kernel_rfl) (q_fieldAddr 1 rfl Tryz.runUnderlying52 rfl Tryz.sizeOf3 (by decide) rfl) (ah_t 20 (fun w9 hs => hs) rfl rfl (by kernel_rfl) (q_load (i := 0) rfl rfl rfl Tryz.isAgg3) ?_)
      refine ah_t 21 (fun w9 hs => hs) rfl rfl (by kernel_rfl) (q_fieldAddr 0 rfl Tryz.runUnderlying52 rfl Tryz.sizeOf3 (by decide) rfl) (ah_t 22 (fun w9 hs => hs) rfl rfl (by kernel_rfl) (q_load (i := 2) rfl rfl rfl Tryz.isAgg3) ?_)
      refine ah_t 23 (fun w9 hs => hs) rfl rfl (by kernel_rfl) (q_add rfl rfl (by omega)) ?_
      refine ah_t 24 (fun w9 hs => hs) rfl rfl (by kernel_rfl) (q_fieldAddr 0 rfl Tryz.runUnderlying52 rfl Tryz.sizeOf3 (by decide) rfl) (ah_t 25 (fun w9 hs => hs) rfl rfl (by kernel_rfl) (q_load (i := 0) rfl rfl rfl Tryz.isAgg3) ?_)
      refine ah_t 26 (fun w9 hs => hs) rfl rfl (by kernel_rfl) (q_sub rfl rfl (by omega)) (ah_one 5 rfl (by kernel_rfl) (fun hok1 hcl1 => ?_))
      refine al_call Tryz.call123 (.cons rfl (.cons rfl .nil)) rfl rfl (fun w2 hs2 => ?_)
      refine (product_any t (exA M C xs k).lo _ ht0 ht (by omega) (by omega)).mono ?_
      rintro e u2 ⟨rfl, hb_2⟩
      refine ⟨_, rfl, hb_2, ?_⟩
      clear hs2
      refine al_end (ah_back hok1 hcl1 (fun w9 hs => (hs.fewer 1 rfl)) ?_)
      refine ah_one 14 rfl (by kernel_rfl) (fun hok2 hcl2 => ?_)
      refine al_call Tryz.call124 (.cons rfl (.cons rfl .nil)) rfl rfl (fun w3 hs3 => ?_)
      refine (down_any t (exA M C xs k).lo ((exA M C xs k).lo + exHi M C xs - (exA M C xs k).hi) _ hq.1).mono ?_
      rintro e u3 ⟨rfl, hb_3⟩
      refine ⟨_, rfl, hb_3, ?_⟩
      clear hs3
      refine al_end (ah_back hok2 hcl2 (fun w9 hs => (hs.fewer 2 rfl)) ?_)
      refine ah_one 18 rfl (by kernel_rfl) (fun hok3 hcl3 => ?_)
      refine al_call Tryz.call123 (.cons rfl (.cons rfl .nil)) rfl rfl (fun w4 hs4 => ?_)
      refine (product_any t (exA M C xs k).hi _ ht0 ht (by omega) (by omega)).mono ?_
      rintro e u4 ⟨rfl, hb_4⟩
      refine ⟨_, rfl, hb_4, ?_⟩
      clear hs4
      refine al_end (ah_back hok3 hcl3 (fun w9 hs => (hs.fewer 3 rfl)) ?_)
      refine ah_one 27 rfl (by kernel_rfl) (fun hok4 hcl4 => ?_)
      refine al_call Tryz.call125 (.cons rfl (.cons rfl .nil)) rfl rfl (fun w5 hs5 => ?_)
      refine (up_any t (exA M C xs k).hi ((exA M C xs k).hi + exLo M C xs - (exA M C xs k).lo) _ hq.2).mono ?_
      rintro e u5 ⟨rfl, hb_5⟩
      refine ⟨_, rfl, hb_5, ?_⟩
      clear hs5
      refine al_end (ah_back hok4 hcl4 (fun w9 hs => (hs.fewer 4 rfl)) ?_)
      refine ah_t 28 (fun w9 hs => (hs.fewer 4 rfl)) rfl rfl (by kernel_rfl) (q_build (.cons rfl (.cons rfl .nil)) (eqk_bl_apiSpan_0_1 _ _ rfl rfl)) ?_
      refine ah_t 29 (fun w9 hs => (hs.fewer 4 rfl)) rfl rfl (by kernel_rfl) (q_indexAddr (i := k) (0 + k * 2) rfl rfl rfl (by omega) Tryz.runUnderlying45 Tryz.sizeOf52 rfl) (ah_one 30 rfl (by kernel_rfl) (fun hok5 hcl5 => ?_))
      refine al_storeV (i := 1) (cs' := (spmix nx (k + 1) (imA M C t xs))) (vs := [.int .i64 (t * (exA M C xs k).lo / ((exA M C xs k).lo + exHi M C xs - (exA M C xs k).hi)), .int .i64 (upQ (t * (exA M C xs k).hi) ((exA M C xs k).hi + exLo M C xs - (exA M C xs k).lo))]) rfl rfl rfl Tryz.sizeOf52 rfl (by rw [mixF_len (z := 2) (fun _ => rfl) (fun _ => rfl)]; omega) rfl (by have h := mixF_store (n := nx) (k := k) (z := 2) (F := fun j => SpanD.cells (imA M C t xs j)) (G := fun _ => [.int .i64 0, .int .i64 0]) (fun _ => rfl) (fun _ => rfl) hkn; rw [Nat.zero_add]; exact h) .k1 rfl ?_
      refine al_end (ah_last (by kernel_rfl) ?_)
      refine aq_inN (aq_then (ac_region ?_))
      refine al_p (q_add rfl rfl (by omega)) (al_p (q_move rfl) (al_end (aq_then ?_)))
      skip
      refine aq_round (k + 1) (by omega) (by omega) ⟨rfl, rfl, rfl, rfl, rfl, rfl, rfl, rfl, trivial⟩ (fun w9 hs => ((hs.fewer 4 rfl).tail 1 rfl))
    · have hke : k = nx := by have := of_decide_eq_false h2; omega
      refine ac_exit (aq_thenE (aq_thenE (aq_hit (aq_then ?_))))
      refine ac_seq (ac_region ?_)
      refine al_p (q_move rfl) (al_p (q_assign rfl) (al_p (q_assign rfl) (al_end (aq_then ?_))))
      refine ac_ret (ret2 Tryz.results82 rfl rfl (fun w9 hs => ?_))
      rw [hE, hR]; exact OutT.ok ⟨isT_box0 (n := 2) (enc := SpanD.cells) (fun _ => rfl) (hs.at 0 rfl) (by rw [hke, n3, imL]; exact flat_spx _ _) (by rw [imL, lst_length, n3]), hs.new 0 rfl, by omega, by omega⟩ hs.below
end
end Go.Proofs.YtogcjgjhmlifgaaGreat
