import Derived.Test.YtogcjgjhmlifgaaGreatOAB
import Derived.Test.YtogcjgjhmlifgaaGreatOAM
import Derived.Test.YtogcjgjhmlifgaaGreatOAN
import Derived.Test.YtogcjgjhmlifgaaGreatOAS
import Derived.Test.YtogcjgjhmlifgaaGreatOAY
import Derived.Test.YtogcjgjhmlifgaaGreatRows
import Derived.KernelRfl
import Derived.Laws.StructEq
namespace Go.Proofs.YtogcjgjhmlifgaaGreat
set_option linter.unusedVariables false
set_option linter.unusedSimpArgs false
section
open Go.RowKit
theorem ah_few {P : Program} {e0 : Cfg} {u : Nat × World} {U U0 : Snaps} {l : Slots} {L L0 : Boxes} {ops : Array Oper} {Q : Exit → Act → World → Prop} {last fuel : Nat} {listed : Array Bool} (k : AH P ops Q U0 L0 last fuel listed e0 U l L) : AH P ops Q U0 L0 last fuel listed e0 (u :: U) l L := fun hok hc a w hf hs => k hok hc a w hf (hs.fewer 1 rfl)
theorem hm_bl_apiSpan_ : ∀ w, (Instr.build 52 #[]).run Tryz.prog w = .ok (.agg #[(.int .i64 0), (.int .i64 0)]) w := by
  intro w; simp [Instr.build, Instr.fill, cells_agg, Tryz.runUnderlying52, Tryz.zeroValue52, Tryz.sizeOf3]
theorem hm_bl_apiSpan_0_1 (a0 a1 : Value) (ha0 : a0.oneCell' = true) (ha1 : a1.oneCell' = true) : ∀ w, (Instr.build 52 #[(0, a0), (1, a1)]).run Tryz.prog w = .ok (.agg #[a0, a1]) w := by
  have ea0 : a0.cells = #[a0] := cells_one ha0
  have ea1 : a1.cells = #[a1] := cells_one ha1
  intro w; simp [Instr.build, Instr.fill, cells_agg, Tryz.runUnderlying52, Tryz.zeroValue52, Tryz.sizeOf3, ea0, ea1]
set_option maxRecDepth 100000 in
theorem meet9_any (a b c d : Int) (w : World) : Calls Tryz.prog 53 #[(.agg #[.int .i64 a, .int .i64 b]), (.agg #[.int .i64 c, .int .i64 d])] w (Ret (.tuple #[Sp (meetL a b c d).1 (meetL a b c d).2.1, .int .i64 (meetL a b c d).2.2]) w) := by
  refine calls_ax (vs := [(.agg #[.int .i64 a, .int .i64 b]), (.agg #[.int .i64 c, .int .i64 d])]) Tryz.func53 rfl rfl ?_
  refine ac_seq (ac_region ?_)
  refine al_new (fun b => .pointer (some ⟨b, 0, none⟩)) (r_box rfl rfl) rfl rfl rfl ?_
  intro b1
  refine al_new (fun b => .pointer (some ⟨b, 0, none⟩)) (r_box rfl rfl) rfl rfl rfl ?_
  intro b2
  refine al_new (fun b => .pointer (some ⟨b, 0, none⟩)) (r_alloc Tryz.zeroValue52 rfl) rfl rfl rfl ?_
  intro b3
  refine al_p (q_assign rfl) (al_end (aq_then ?_))
  refine ac_seq (ac_seq (ac_region ?_))
  refine al_p (q_loadAll (i := 2) rfl rfl Tryz.isAgg52 Tryz.sizeOf52 rfl) (al_call Tryz.call96 (.cons rfl .nil) rfl rfl (fun w1 hs1 => ?_))
  refine (valid_any a b _).mono ?_
  rintro e u1 ⟨rfl, hb_1⟩
  refine ⟨_, rfl, hb_1, ?_⟩
  clear hs1
  refine al_p (q_not rfl) (al_p (q_move rfl) ?_)
  refine aq_split 10 rfl (fun hb1 => ?_) (fun hb1 => ?_)
  · have q1 : vld a b = false := by simpa using hb1
    refine al_skip rfl rfl rfl (al_skip rfl rfl rfl (al_skip rfl rfl rfl (al_p (q_pickT rfl rfl) (al_end (aq_then ?_)))))
    refine ac_condT rfl (ac_seq (ac_region ?_))
    refine al_p (q_build .nil (hm_bl_apiSpan_)) (al_storeAll (i := 0) rfl rfl rfl rfl Tryz.sizeOf52 rfl rfl .k0 rfl (al_p (q_assign rfl) (al_end (aq_then ?_))))
    refine ac_ret (aq_thenR (retR Tryz.results53 (.agg (i := 0) rfl rfl Tryz.isAgg52 Tryz.sizeOf52 rfl (.tmp rfl .nil)) .two (fun w9 hs => ?_)))
    rw [show meetL a b c d = (0, 0, 1) from by unfold meetL; simp [q1]]; exact ⟨rfl, hs.below⟩
  · have q1 : vld a b = true := by simpa using hb1
    refine al_p (q_loadAll (i := 1) rfl rfl Tryz.isAgg52 Tryz.sizeOf52 rfl) (al_call Tryz.call96 (.cons rfl .nil) rfl rfl (fun w2 hs2 => ?_))
    refine (valid_any c d _).mono ?_
    rintro e u2 ⟨rfl, hb_2⟩
    refine ⟨_, rfl, hb_2, ?_⟩
    clear hs2
    refine al_p (q_not rfl) (al_p (q_pickF rfl rfl) (al_end (aq_then ?_)))
    refine ac_cond rfl (fun h1 => ?_) (fun h1 => ?_)
    · have q2 : vld c d = false := by simpa using h1
      refine ac_seq (ac_region ?_)
      refine al_p (q_build .nil (hm_bl_apiSpan_)) (al_storeAll (i := 0) rfl rfl rfl rfl Tryz.sizeOf52 rfl rfl .k0 rfl (al_p (q_assign rfl) (al_end (aq_then ?_))))
      refine ac_ret (aq_thenR (retR Tryz.results53 (.agg (i := 0) rfl rfl Tryz.isAgg52 Tryz.sizeOf52 rfl (.tmp rfl .nil)) .two (fun w9 hs => ?_)))
      rw [show meetL a b c d = (0, 0, 1) from by unfold meetL; simp [q1, q2]]; exact ⟨rfl, hs.below⟩
    · have q2 : vld c d = true := by simpa using h1
      refine ac_skip (aq_then (ac_seq (ac_region ?_)))
      refine al_p (q_fieldAddr 0 rfl Tryz.runUnderlying52 rfl Tryz.sizeOf3 (by decide) rfl) (al_p (q_load (i := 2) rfl rfl rfl Tryz.isAgg3) ?_)
      refine al_p (q_fieldAddr 0 rfl Tryz.runUnderlying52 rfl Tryz.sizeOf3 (by decide) rfl) (al_p (q_load (i := 1) rfl rfl rfl Tryz.isAgg3) (al_p (q_max rfl rfl) ?_))
      refine al_p (q_fieldAddr 1 rfl Tryz.runUnderlying52 rfl Tryz.sizeOf3 (by decide) rfl) (al_p (q_load (i := 2) rfl rfl rfl Tryz.isAgg3) ?_)
      refine al_p (q_fieldAddr 1 rfl Tryz.runUnderlying52 rfl Tryz.sizeOf3 (by decide) rfl) (al_p (q_load (i := 1) rfl rfl rfl Tryz.isAgg3) (al_p (q_min rfl rfl) (al_p (q_build (.cons rfl (.cons rfl .nil)) (hm_bl_apiSpan_0_1 _ _ rfl rfl)) (al_new (fun b => .pointer (some ⟨b, 0, none⟩)) (r_alloc Tryz.zeroValue52 rfl) rfl rfl rfl ?_))))
      intro b4
      refine al_storeAll (i := 0) rfl rfl rfl rfl Tryz.sizeOf52 rfl rfl .k0 rfl (al_end (aq_then ?_))
      refine ac_seq (ac_seq (ac_region ?_))
      refine al_p (q_loadAll (i := 0) rfl rfl Tryz.isAgg52 Tryz.sizeOf52 rfl) (al_call Tryz.call96 (.cons rfl .nil) rfl rfl (fun w3 hs3 => ?_))
      refine (valid_any (max a c) (min b d) _).mono ?_
      rintro e u3 ⟨rfl, hb_3⟩
      refine ⟨_, rfl, hb_3, ?_⟩
      clear hs3
      refine al_p (q_not rfl) (al_end (aq_then ?_))
      refine ac_cond rfl (fun h2 => ?_) (fun h2 => ?_)
      · have q3 : ¬ max a c ≤ min b d := fun h9 => by rw [show vld (max a c) (min b d) = true from vld_iff.2 (by have := vld_iff.1 q1; have := vld_iff.1 q2; omega)] at h2; cases h2
        refine ac_seq (ac_region ?_)
        refine al_p (q_build .nil (hm_bl_apiSpan_)) (al_storeAll (i := 1) rfl rfl rfl rfl Tryz.sizeOf52 rfl rfl .k1 rfl (al_p (q_assign rfl) (al_end (aq_then ?_))))
        refine ac_ret (aq_thenR (retR Tryz.results53 (.agg (i := 1) rfl rfl Tryz.isAgg52 Tryz.sizeOf52 rfl (.tmp rfl .nil)) .two (fun w9 hs => ?_)))
        rw [show meetL a b c d = (0, 0, 8) from by unfold meetL; simp [q1, q2, q3]]; exact ⟨rfl, hs.below⟩
      · have q3 : max a c ≤ min b d := by have := vld_iff.1 (by simpa using h2 : vld (max a c) (min b d) = true); omega
        refine ac_skip (aq_then (ac_seq (ac_region ?_)))
        refine al_p (q_loadAll (i := 0) rfl rfl Tryz.isAgg52 Tryz.sizeOf52 rfl) (al_storeAll (i := 1) rfl rfl rfl rfl Tryz.sizeOf52 rfl rfl .k1 rfl (al_p (q_assign rfl) (al_end (aq_then ?_))))
        refine ac_ret (retR Tryz.results53 (.agg (i := 1) rfl rfl Tryz.isAgg52 Tryz.sizeOf52 rfl (.tmp rfl .nil)) .two (fun w9 hs => ?_))
        rw [show meetL a b c d = (max a c, min b d, 0) from by unfold meetL; simp [q1, q2, q3]]; exact ⟨rfl, hs.below⟩
end
section
open Go.RowKit
def cbP (F : SpanD → SpanD → SpanD × Int) (xs ys : List SpanD) (n : Nat) : Prop := ∀ k, k < n → (F (spA xs k) (spA ys k)).2 = 0
instance (F : SpanD → SpanD → SpanD × Int) (xs ys : List SpanD) (n : Nat) : Decidable (cbP F xs ys n) := Nat.decidableBallLT n (fun k _ => (F (spA xs k) (spA ys k)).2 = 0)
def cbE (F : SpanD → SpanD → SpanD × Int) (xs ys : List SpanD) (n : Nat) : Int := if cbP F xs ys n then 0 else 8
def cbR (F : SpanD → SpanD → SpanD × Int) (xs ys : List SpanD) (n : Nat) : List SpanD := if cbP F xs ys n then lst n (fun k => (F (spA xs k) (spA ys k)).1) else []
set_option maxRecDepth 100000 in
theorem combine_any (F : SpanD → SpanD → SpanD × Int) (g : Nat) (X Y : Option Addr) (nx cx ny cy : Nat) (xs ys : List SpanD) (w : World) (eg : ∀ args w, (callFunc g args).run Tryz.prog w = .ok (.enter g args) w) (hdo : ∀ (a b : SpanD) (W : World), Calls Tryz.prog g #[.agg #[.int .i64 a.lo, .int .i64 a.hi], .agg #[.int .i64 b.lo, .int .i64 b.hi]] W (Ret (.tuple #[.agg #[.int .i64 (F a b).1.lo, .int .i64 (F a b).1.hi], .int .i64 (F a b).2]) W)) (hS : IsT 2 SpanD.cells w X nx xs) (hT : IsT 2 SpanD.cells w Y ny ys) (hn : nx ≤ ny) (hl : nx ≤ 1000) (he : ∀ k, k < nx → (F (spA xs k) (spA ys k)).2 = 0 ∨ (F (spA xs k) (spA ys k)).2 = 8) : Calls Tryz.prog 52 #[(.slice X nx cx), (.slice Y ny cy), (.func (.func g) #[] #[])] w (OutT 2 SpanD.cells w (cbE F xs ys nx) (cbR F xs ys nx)) := by
  have n1 := hS.1
  have n2 := hT.1
  refine calls_ax (vs := [(.slice X nx cx), (.slice Y ny cy), (.func (.func g) #[] #[])]) Tryz.func52 rfl rfl ?_
  refine ac_seq (ac_region ?_)
  refine al_p (q_assign rfl) (al_p (q_assign rfl) (al_end (aq_then ?_)))
  refine ac_seq (ac_region ?_)
  refine al_p (q_move rfl) (al_p (q_lenS rfl Tryz.runUnderlying45) ?_)
  refine al_makeAgg (n := nx) (bytes := 16) (zv := (.agg #[.int .i64 0, .int .i64 0])) [(.int .i64 0), (.int .i64 0)] rfl rfl rfl Tryz.underlying45 (by kernel_rfl) rfl rfl rfl (by omega) (by decide) rfl rfl ?_
  intro b1
  refine al_p (q_assign rfl) (al_end (aq_then ?_))
  refine ac_seq (ac_seq (ac_region ?_))
  refine al_p (q_move rfl) (al_p (q_lenS rfl Tryz.runUnderlying45) (al_p (q_move rfl) (al_end (aq_then ?_))))
  refine ac_block ?_
  refine ac_loop (β := Nat) (fun k => k ≤ nx ∧ cbP F xs ys k) (fun k => [(1, (.slice Y ny cy)), (2, (.func (.func g) #[] #[])), (6, (.slice none 0 0)), (7, (.int .i64 0)), (8, (.slice (some ⟨b1, 0, none⟩) (nx) (nx))), (16, (.slice X nx cx)), (17, (.int .i64 (nx : Int))), (18, (.int .i64 (k : Int)))]) (fun _ => _) (fun k => [(b1, .cells (spmix nx k (fun k => (F (spA xs k) (spA ys k)).1)))]) (fun k => nx - k) 0 ⟨by omega, fun j h => by omega⟩ ⟨rfl, rfl, rfl, rfl, rfl, rfl, rfl, rfl, trivial⟩ (fun w9 hs => (by rw [show spmix nx 0 (fun k => (F (spA xs k) (spA ys k)).1) = (List.range nx).flatMap (fun _ => [.int .i64 0, .int .i64 0]) from mixF_zero _ _ _]; exact hs)) (fun k hF1 => ?_)
  refine ac_seq (ac_region ?_)
  refine al_p (q_lss rfl rfl) (al_end (aq_then ?_))
  refine ac_seq ?_
  refine ac_cond rfl (fun h1 => ?_) (fun h1 => ?_)
  · have hkn : k < nx := by have := of_decide_eq_true h1; omega
    obtain ⟨b11, o11, hA1, hlt1, hget1⟩ := hS.2 (by omega)
    have hx1 := spA_get (x := xs) (k := k) (by omega)
    obtain ⟨b21, o21, hA2, hlt2, hget2⟩ := hT.2 (by omega)
    have hx2 := spA_get (x := ys) (k := k) (by omega)
    refine ac_skip (aq_then (ac_seq (ac_block (ac_seq (ac_region ?_)))))
    refine al_p (q_move rfl) ?_
    refine al_p (q_indexAddrA (i := k) (o11 + k * 2 + 0) hA1 rfl rfl rfl (by omega) Tryz.runUnderlying45 Tryz.sizeOf52 rfl) (al_p (q_loadXs (SpanD.cells (spA xs k)) rfl Tryz.isAgg52 Tryz.sizeOf52 (fun w9 hs j9 v9 h9 => by rw [addr_add]; exact (hs.below.cell (p := ⟨_, _, none⟩) hlt1).trans ((hget1 k _ hx1) j9 v9 h9)) rfl) (al_new (fun b => .pointer (some ⟨b, 0, none⟩)) (r_alloc Tryz.zeroValue52 rfl) rfl rfl rfl ?_))
    intro b2
    refine al_p (q_assign rfl) (al_storeAll (i := 0) rfl rfl rfl rfl Tryz.sizeOf52 rfl rfl .k0 rfl (al_end (aq_then ?_)))
    refine ac_seq (ac_draw 12 (by kernel_rfl) (by kernel_rfl) ?_)
    refine ah_share (fuel' := 2) (listed' := #[true, true, true, true, true, true, true, true, true, true, true, false, false]) (fun K => ∀ (b3001 : Nat), K [(1, (.slice Y ny cy)), (2, (.func (.func g) #[] #[])), (6, (.slice none 0 0)), (7, (.int .i64 0)), (8, (.slice (some ⟨b1, 0, none⟩) (nx) (nx))), (9, (.int .i64 (k : Int))), (10, (.pointer (some ⟨b2, 0, none⟩))), (11, (.pointer (some ⟨b3001, 0, none⟩))), (16, (.slice X nx cx)), (17, (.int .i64 (nx : Int))), (18, (.int .i64 (k : Int))), (20, (.int .i64 (k : Int))), (21, (.pointer (some ⟨b11, o11 + k * 2 + 0, none⟩))), (22, (.agg #[.int .i64 (spA xs k).lo, .int .i64 (spA xs k).hi])), (24, (.func (.func g) #[] #[])), (25, (.agg #[.int .i64 (spA xs k).lo, .int .i64 (spA xs k).hi])), (26, (.slice Y ny cy)), (27, (.int .i64 (k : Int))), (28, (.pointer (some ⟨b21, o21 + k * 2 + 0, none⟩))), (29, (.agg #[.int .i64 (spA ys k).lo, .int .i64 (spA ys k).hi])), (31, (.agg #[.int .i64 (F (spA xs k) (spA ys k)).1.lo, .int .i64 (F (spA xs k) (spA ys k)).1.hi])), (32, (.int .i64 (F (spA xs k) (spA ys k)).2))] [(b3001, .cells [(.int .i64 0), (.int .i64 0)]), (b2, .cells [(.int .i64 (spA xs k).lo), (.int .i64 (spA xs k).hi)]), (b1, .cells (spmix nx k (fun k => (F (spA xs k) (spA ys k)).1)))]) ?_ (fun hS1_0 => ?_)
    · intro b3001
      refine ah_one 11 rfl (by kernel_rfl) (fun hok1 hcl1 => ?_)
      refine al_storeAll (i := 0) rfl rfl rfl rfl Tryz.sizeOf52 rfl rfl .k0 rfl (al_end (ah_back hok1 hcl1 (fun w9 hs => (hs.tail 1 rfl)) ?_))
      refine ah_one 12 rfl (by kernel_rfl) (fun hok2 hcl2 => ?_)
      refine al_p (q_assign rfl) (al_end (ah_last (by kernel_rfl) ?_))
      refine aq_then (ac_seq (ac_seq (ac_region ?_)))
      refine al_p (q_move rfl) (al_p (q_neq rfl rfl) (al_end (aq_then ?_)))
      refine ac_cond rfl (fun h2 => ?_) (fun h2 => ?_)
      · have hbd : (F (spA xs k) (spA ys k)).2 ≠ 0 := by simpa using h2
        have hP : ¬ cbP F xs ys nx := fun h => hbd (h k hkn)
        have h8 : (F (spA xs k) (spA ys k)).2 = 8 := (he k hkn).resolve_left hbd
        have hE : cbE F xs ys nx = 8 := if_neg hP
        have hR : cbR F xs ys nx = [] := if_neg hP
        refine ac_seq (ac_region ?_)
        refine al_p (q_move rfl) (al_p (q_assign rfl) (al_p (q_assign rfl) (al_end (aq_then ?_))))
        refine ac_ret (aq_thenR (aq_inR (aq_thenR (aq_thenR ?_))))
        refine aq_inR (aq_thenR (ret2 Tryz.results52 rfl rfl (fun w9 hs => ?_)))
        rw [hE, hR, h8]; exact OutT.nil hs.below
      · have hok : (F (spA xs k) (spA ys k)).2 = 0 := by simpa using h2
        refine ac_skip (aq_then (ac_region (al_p (q_move rfl) (al_p (q_move rfl) ?_))))
        refine al_p (q_loadAll (i := 0) rfl rfl Tryz.isAgg52 Tryz.sizeOf52 rfl) ?_
        refine al_p (q_indexAddr (i := k) (0 + k * 2) rfl rfl rfl (by omega) Tryz.runUnderlying45 Tryz.sizeOf52 rfl) ?_
        refine al_storeV (i := 2) (cs' := (spmix nx (k + 1) (fun k => (F (spA xs k) (spA ys k)).1))) (vs := [.int .i64 (F (spA xs k) (spA ys k)).1.lo, .int .i64 (F (spA xs k) (spA ys k)).1.hi]) rfl rfl rfl Tryz.sizeOf52 rfl (by rw [mixF_len (z := 2) (fun _ => rfl) (fun _ => rfl)]; omega) rfl (by have h := mixF_store (n := nx) (k := k) (z := 2) (F := fun j => SpanD.cells ((fun k => (F (spA xs k) (spA ys k)).1) j)) (G := fun _ => [.int .i64 0, .int .i64 0]) (fun _ => rfl) (fun _ => rfl) hkn; rw [Nat.zero_add]; exact h) .k2 rfl ?_
        refine al_end (aq_inN (aq_then (ac_region ?_)))
        refine al_p (q_add rfl rfl (by omega)) (al_p (q_move rfl) (al_end (aq_then ?_)))
        skip
        refine aq_round (k + 1) (by omega) ⟨by omega, fun j h1 => (Nat.lt_or_ge j k).elim (fun g => hF1.2 j g) (fun g => by (have e : j = k := by omega); rw [e]; exact hok)⟩ ⟨rfl, rfl, rfl, rfl, rfl, rfl, rfl, rfl, trivial⟩ (fun w9 hs => (hs.tail 2 rfl))
    · refine ah_t 0 (fun w9 hs => hs) rfl rfl (by kernel_rfl) (q_move rfl) (ah_t 1 (fun w9 hs => hs) rfl rfl (by kernel_rfl) (q_loadAll (i := 0) rfl rfl Tryz.isAgg52 Tryz.sizeOf52 rfl) (ah_t 2 (fun w9 hs => hs) rfl rfl (by kernel_rfl) (q_move rfl) (ah_t 3 (fun w9 hs => hs) rfl rfl (by kernel_rfl) (q_move rfl) ?_)))
      refine ah_t 4 (fun w9 hs => hs) rfl rfl (by kernel_rfl) (q_indexAddrA (i := k) (o21 + k * 2 + 0) hA2 rfl rfl rfl (by omega) Tryz.runUnderlying45 Tryz.sizeOf52 rfl) (ah_t 5 (fun w9 hs => hs) rfl rfl (by kernel_rfl) (q_loadXs (SpanD.cells (spA ys k)) rfl Tryz.isAgg52 Tryz.sizeOf52 (fun w9 hs j9 v9 h9 => by rw [addr_add]; exact (hs.below.cell (p := ⟨_, _, none⟩) hlt2).trans ((hget2 k _ hx2) j9 v9 h9)) rfl) ?_)
      refine ah_two 6 10 rfl rfl  (by kernel_rfl) (fun hok3 hcl3 => ?_) (fun hok3 hcl3 => ?_)
      · refine al_callV (f := g) (fi := []) (ca := []) rfl (eg) (.cons rfl (.cons rfl .nil)) rfl rfl (fun w3 hs3 => ?_)
        refine (hdo (spA xs k) (spA ys k) _).mono ?_
        rintro e u3 ⟨rfl, hb_3⟩
        refine ⟨_, rfl, hb_3, ?_⟩
        clear hs3
        refine al_end (ah_back hok3 hcl3 (fun w9 hs => (hs.fewer 1 rfl)) ?_)
        refine ah_few ?_
        refine ah_t 7 (fun w9 hs => hs) rfl rfl (by kernel_rfl) (q_move rfl) (ah_t 8 (fun w9 hs => hs) rfl rfl (by kernel_rfl) (q_extract rfl rfl) (ah_t 9 (fun w9 hs => hs) rfl rfl (by kernel_rfl) (q_extract rfl rfl) (ah_one 10 rfl (by kernel_rfl) (fun hok4 hcl4 => ?_))))
        refine al_new (fun b => .pointer (some ⟨b, 0, none⟩)) (r_alloc Tryz.zeroValue52 rfl) rfl rfl rfl ?_
        intro b3
        refine al_end (ah_back hok4 hcl4 (fun w9 hs => (hs.tail 1 rfl)) ?_)
        exact ah_to (hS1_0 b3) rfl (by kernel_rfl) ⟨rfl, rfl, rfl, rfl, rfl, rfl, rfl, rfl, rfl, rfl, rfl, rfl, rfl, rfl, rfl, rfl, rfl, rfl, rfl, rfl, rfl, rfl, trivial⟩ (fun w9 hs => hs)
      · refine al_new (fun b => .pointer (some ⟨b, 0, none⟩)) (r_alloc Tryz.zeroValue52 rfl) rfl rfl rfl ?_
        intro b4
        refine al_end (ah_back hok3 hcl3 (fun w9 hs => (hs.tail 1 rfl)) ?_)
        refine ah_one 6 rfl (by kernel_rfl) (fun hok5 hcl5 => ?_)
        refine al_callV (f := g) (fi := []) (ca := []) rfl (eg) (.cons rfl (.cons rfl .nil)) rfl rfl (fun w4 hs4 => ?_)
        refine (hdo (spA xs k) (spA ys k) _).mono ?_
        rintro e u4 ⟨rfl, hb_4⟩
        refine ⟨_, rfl, hb_4, ?_⟩
        clear hs4
        refine al_end (ah_back hok5 hcl5 (fun w9 hs => ((hs.fewer 1 rfl).tail 1 rfl)) ?_)
        refine ah_few ?_
        refine ah_t 7 (fun w9 hs => (hs.tail 1 rfl)) rfl rfl (by kernel_rfl) (q_move rfl) (ah_t 8 (fun w9 hs => (hs.tail 1 rfl)) rfl rfl (by kernel_rfl) (q_extract rfl rfl) (ah_t 9 (fun w9 hs => (hs.tail 1 rfl)) rfl rfl (by kernel_rfl) (q_extract rfl rfl) ?_))
        exact ah_to (hS1_0 b4) rfl (by kernel_rfl) ⟨rfl, rfl, rfl, rfl, rfl, rfl, rfl, rfl, rfl, rfl, rfl, rfl, rfl, rfl, rfl, rfl, rfl, rfl, rfl, rfl, rfl, rfl, trivial⟩ (fun w9 hs => hs)
  · have hke : k = nx := by have := of_decide_eq_false h1; omega
    refine ac_exit (aq_thenE (aq_thenE (aq_hit (aq_then ?_))))
    refine ac_seq (ac_region ?_)
    refine al_p (q_move rfl) (al_p (q_assign rfl) (al_p (q_assign rfl) (al_end (aq_then ?_))))
    refine ac_ret (ret2 Tryz.results52 rfl rfl (fun w9 hs => ?_))
    have hP : cbP F xs ys nx := by rw [← hke]; exact hF1.2
    rw [show cbE F xs ys nx = 0 from if_pos hP, show cbR F xs ys nx = lst nx (fun k => (F (spA xs k) (spA ys k)).1) from if_pos hP]
    rw [hke] at hs
    exact OutT.ok ⟨isT_box0 (n := 2) (enc := SpanD.cells) (zs := lst nx (fun k => (F (spA xs k) (spA ys k)).1)) (fun _ => rfl) (hs.at 0 rfl) (flat_spx _ _) (lst_length _ _), hs.new 0 rfl, by omega, by omega⟩ hs.below
def evA (n t : Int) (k : Nat) : Int := if (k : Int) < t % n then t / n + 1 else t / n
def evC (n : Nat) (t : Int) (k : Nat) : List Value := lst n fun j => .int .i64 (if j < k then evA (n : Int) t j else 0)
theorem lst_set {α : Type} {n k : Nat} {f g : Nat → α} {v : α} (hv : g k = v) (h : ∀ j, j < n → j ≠ k → f j = g j) : (lst n f).set k v = lst n g := by
  refine List.ext_getElem? fun j => ?_
  rw [List.getElem?_set]
  by_cases hj : k = j
  · subst hj
    rw [if_pos rfl, lst_length]
    by_cases hk : k < n
    · rw [if_pos hk, lst_get _ hk, hv]
    · rw [if_neg hk, List.getElem?_eq_none (by rw [lst_length]; omega)]
  · rw [if_neg hj]
    by_cases hk : j < n
    · rw [lst_get _ hk, lst_get _ hk, h j hk (fun e => hj e.symm)]
    · rw [List.getElem?_eq_none (by rw [lst_length]; omega), List.getElem?_eq_none (by rw [lst_length]; omega)]
theorem evC_zero (n : Nat) (t : Int) : evC n t 0 = List.replicate n (.int .i64 0) := by
  refine List.ext_getElem? fun j => ?_
  unfold evC
  by_cases h : j < n
  · rw [lst_get _ h]; simp [h]
  · rw [List.getElem?_eq_none (by rw [lst_length]; omega), List.getElem?_eq_none (by simp; omega)]
theorem evC_set {n k : Nat} {t v : Int} (hv : evA (n : Int) t k = v) : (evC n t k).set k (.int .i64 v) = evC n t (k + 1) := by
  refine lst_set (by rw [if_pos (by omega), hv]) fun j hj hne => ?_
  by_cases h : j < k
  · rw [if_pos h, if_pos (by omega)]
  · rw [if_neg h, if_neg (by omega)]
theorem evC_all {n : Nat} {t : Int} : evC n t n = (lst n (evA (n : Int) t)).flatMap intCells := by
  rw [flat_int]
  refine List.ext_getElem? fun j => ?_
  unfold evC
  by_cases h : j < n
  · rw [lst_get _ h, List.getElem?_map, lst_get _ h, if_pos h]; rfl
  · rw [List.getElem?_eq_none (by rw [lst_length]; omega), List.getElem?_eq_none (by simp [lst_length]; omega)]
theorem ev_div {n : Nat} {t : Int} (h1 : 1 ≤ n) (h0 : 0 ≤ t) : t.tdiv (n : Int) = t / n ∧ t.tmod (n : Int) = t % n := ⟨Int.tdiv_eq_ediv_of_nonneg h0, Int.tmod_eq_emod_of_nonneg h0⟩
theorem wth_yes (n a b : Int) (w : World) (h1 : a ≤ n) (h2 : n ≤ b) : Calls Tryz.prog 46 #[.int .i64 n, .int .i64 a, .int .i64 b] w (Ret (.bool true) w) := by
  have h := within5_any n a b w
  rwa [wthn_iff.2 ⟨h1, h2⟩] at h
theorem tot_yes (n : Int) (w : World) (h1 : 1 ≤ n) (h2 : n ≤ 1000000) : Calls Tryz.prog 47 #[.int .i64 n] w (Ret (.bool true) w) := by
  have h := total5_any n w
  rwa [wthn_iff.2 ⟨h1, h2⟩] at h
theorem set_get {l : List Value} {k : Nat} {v : Value} (h : k < l.length) : (l.set k v)[k]? = some v := by rw [List.getElem?_set_self h]
set_option maxRecDepth 100000 in
theorem even_ok (n : Nat) (t : Int) (w : World) (h1 : 1 ≤ n) (h2 : n ≤ 64) (t0 : 1 ≤ t) (t1 : t ≤ 1000000) : Calls Tryz.prog 14 #[(.int .i64 (n : Int)), (.int .i64 t)] w (fun e w' => ∃ A c, e = .returned (.slice A n c) ∧ NewT 1 intCells w.heap.size w' A n c (lst n (evA (n : Int) t)) ∧ Below w.heap.size w w') := by
  obtain ⟨d1, d2⟩ := ev_div (n := n) (t := t) h1 (by omega)
  have d3 : t / (n : Int) ≤ t := Int.ediv_le_self _ (by omega)
  have d4 : 0 ≤ t / (n : Int) := Int.ediv_nonneg (by omega) (by omega)
  refine calls_ax (vs := [(.int .i64 (n : Int)), (.int .i64 t)]) Tryz.func14 rfl rfl ?_
  refine ac_seq (ac_region ?_)
  refine al_p (q_assign rfl) (al_end (aq_then ?_))
  refine ac_seq (ac_seq (ac_region ?_))
  refine al_p (q_move rfl) (al_call Tryz.call46 (.cons rfl (.cons rfl (.cons rfl .nil))) rfl rfl (fun w1 hs1 => ?_))
  refine (wth_yes (n : Int) 1 64 _ (by omega) (by omega)).mono ?_
  rintro e u1 ⟨rfl, hb_1⟩
  refine ⟨_, rfl, hb_1, ?_⟩
  clear hs1
  refine al_p (q_not rfl) (al_p (q_move rfl) (al_p (q_move rfl) (al_call Tryz.call47 (.cons rfl .nil) rfl rfl (fun w2 hs2 => ?_))))
  refine (tot_yes t _ t0 t1).mono ?_
  rintro e u2 ⟨rfl, hb_2⟩
  refine ⟨_, rfl, hb_2, ?_⟩
  clear hs2
  refine al_p (q_not rfl) (al_p (q_pickF rfl rfl) (al_end (aq_then ?_)))
  refine ac_condF rfl (ac_skip (aq_then (ac_seq (ac_region ?_))))
  refine al_p (q_move rfl) ?_
  refine al_makeInts (n := n) (z := (.int .i64 0)) (bytes := 8) rfl rfl rfl Tryz.underlying30 (by kernel_rfl) rfl (by omega) (by decide) rfl rfl ?_
  intro b1
  refine al_p (q_assign rfl) (al_end (aq_then ?_))
  refine ac_seq (ac_seq (ac_region ?_))
  refine al_p (q_move rfl) (al_p (q_lenS rfl Tryz.runUnderlying30) (al_p (q_move rfl) (al_end (aq_then ?_))))
  refine ac_block ?_
  refine ac_loop (β := Nat) (fun k => k ≤ n) (fun k => [(0, (.int .i64 (n : Int))), (1, (.int .i64 t)), (4, (.slice none 0 0)), (5, (.slice (some ⟨b1, 0, none⟩) (n) (n))), (18, (.int .i64 ((n) : Int))), (19, (.int .i64 (k : Int)))]) (fun _ => _) (fun k => [(b1, .cells (evC n t k))]) (fun k => n - k) 0 (by omega) ⟨rfl, rfl, rfl, rfl, rfl, rfl, trivial⟩ (fun w9 hs => (by rw [evC_zero]; exact hs)) (fun k hF1 => ?_)
  refine ac_seq (ac_region ?_)
  refine al_p (q_lss rfl rfl) (al_end (aq_then ?_))
  refine ac_seq ?_
  refine ac_cond rfl (fun h1 => ?_) (fun h1 => ?_)
  · have hkn : k < n := by have := of_decide_eq_true h1; omega
    refine ac_skip (aq_then (ac_seq (ac_block (ac_seq (ac_region ?_)))))
    refine al_p (q_move rfl) (al_p (q_assign rfl) (al_end (aq_then ?_)))
    refine ac_seq (ac_region ?_)
    refine al_p (q_move rfl) (al_p (q_move rfl) (al_p (q_move rfl) (al_p (q_move rfl) ?_)))
    refine al_p (q_quo rfl rfl (by omega)) ?_
    refine al_p (q_indexAddr (i := k) (k) rfl rfl rfl (by omega) Tryz.runUnderlying30 Tryz.sizeOf3 (by omega)) ?_
    refine al_store1 (i := 0) rfl rfl rfl rfl Tryz.sizeOf3 (SetAt.ofSet (by unfold evC; rw [lst_length]; omega)) .k0 rfl (al_end (aq_then ?_))
    refine ac_seq (ac_region ?_)
    refine al_p (q_move rfl) (al_p (q_move rfl) (al_p (q_move rfl) ?_))
    refine al_p (q_rem rfl rfl (by omega)) (al_p (q_lss rfl rfl) (al_end (aq_then ?_)))
    refine ac_cond rfl (fun h2 => ?_) (fun h2 => ?_)
    · have hv : evA (n : Int) t k = t / n + 1 := if_pos (by have := of_decide_eq_true h2; omega)
      refine ac_region (al_p (q_move rfl) (al_p (q_move rfl) ?_))
      refine al_p (q_indexAddr (i := k) (k) rfl rfl rfl (by omega) Tryz.runUnderlying30 Tryz.sizeOf3 (by omega)) ?_
      refine al_p (q_load (i := 0) rfl rfl (set_get (by unfold evC; rw [lst_length]; omega)) Tryz.isAgg3) ?_
      refine al_p (q_add rfl rfl (by omega)) ?_
      refine al_p (q_indexAddr (i := k) (k) rfl rfl rfl (by omega) Tryz.runUnderlying30 Tryz.sizeOf3 (by omega)) ?_
      refine al_store1 (i := 0) rfl rfl rfl rfl Tryz.sizeOf3 (SetAt.ofSet (by unfold evC; rw [List.length_set, lst_length]; omega)) .k0 rfl (al_end (aq_inN (aq_then (ac_region ?_))))
      refine al_p (q_add rfl rfl (by omega)) (al_p (q_move rfl) (al_end (aq_then ?_)))
      skip
      refine aq_round (k + 1) (by omega) (by omega) ⟨rfl, rfl, rfl, rfl, rfl, rfl, trivial⟩ (fun w9 hs => (by rw [← evC_set hv, ← d1]; first | exact hs | (have h9 := hs; rw [List.set_set] at h9; exact h9)))
    · have hv : evA (n : Int) t k = t / n := if_neg (by have := of_decide_eq_false h2; omega)
      refine ac_skip (aq_inN (aq_then (ac_region ?_)))
      refine al_p (q_add rfl rfl (by omega)) (al_p (q_move rfl) (al_end (aq_then ?_)))
      skip
      refine aq_round (k + 1) (by omega) (by omega) ⟨rfl, rfl, rfl, rfl, rfl, rfl, trivial⟩ (fun w9 hs => (by rw [← evC_set hv, ← d1]; first | exact hs | (have h9 := hs; rw [List.set_set] at h9; exact h9)))
  · have hke : k = n := by have := of_decide_eq_false h1; omega
    refine ac_exit (aq_thenE (aq_thenE (aq_hit (aq_then ?_))))
    refine ac_seq (ac_region ?_)
    refine al_p (q_move rfl) (al_p (q_assign rfl) (al_end (aq_then ?_)))
    refine ac_ret (ret1 Tryz.results14 rfl (fun w9 hs => ?_))
    rw [hke] at hs; exact ⟨_, _, rfl, ⟨isT_box0 (n := 1) (enc := intCells) (zs := lst n (evA (n : Int) t)) (fun _ => rfl) (hs.at 0 rfl) evC_all.symm (lst_length _ _), hs.new 0 rfl, by omega, by omega⟩, hs.below⟩
end
section
open Go.RowKit Go.Shelf
end
end Go.Proofs.YtogcjgjhmlifgaaGreat
