import Derived.Test.YthggkidiidnaoaaGreatWAA
import Derived.Test.YthggkidiidnaoaaGreatWAB
import Derived.Test.YthggkidiidnaoaaGreatWAC
import Derived.Test.YthggkidiidnaoaaGreatWAD
import Derived.Test.YthggkidiidnaoaaGreatWAV
import Derived.Test.YthggkidiidnaoaaGreatWAW
import Derived.Test.YthggkidiidnaoaaGreatWAY
import Derived.Test.YthggkidiidnaoaaGreatWAZ
import Derived.Test.YthggkidiidnaoaaGreatWBA
import Derived.Test.YthggkidiidnaoaaGreatWBP
import Derived.Test.YthggkidiidnaoaaGreatRows
import Derived.KernelRfl
import Derived.Laws.StructEq
namespace Go.Proofs.YthggkidiidnaoaaGreat
set_option linter.unusedVariables false
set_option linter.unusedSimpArgs false
section
open Go.RowKit Go.Shelf
end
section
open Go.RowKit Go.Shelf
end
section
open Go.RowKit Go.Shelf
def SpansAt (E : Int) (T : List SpanD) (w : World) (e : Ending) (w' : World) : Prop :=
 ∃ (A : Option Addr) (c : Nat), e = .returned (.tuple #[.slice A T.length c, .int .i64 E]) ∧ IsT 2 SpanD.cells w' A T.length T ∧ (T ≠ [] → ∃ b, A = some ⟨b, 0, none⟩ ∧ RowL b (T.flatMap SpanD.cells) w') ∧ Below w.heap.size w w'
theorem SpansAt.nil {E : Int} {w w' : World} (h : Below w.heap.size w w') : SpansAt E [] w (.returned (.tuple #[.slice none 0 0, .int .i64 E])) w' := ⟨none, 0, rfl, ⟨rfl, fun h => absurd h (by simp)⟩, fun h => absurd rfl h, h⟩
end
section
open Go.RowKit Go.Shelf
end
section
open Go.RowKit
theorem ah_few {P : Program} {e0 : Cfg} {u : Nat × World} {U U0 : Snaps} {l : Slots} {L L0 : Boxes} {ops : Array Oper} {Q : Exit → Act → World → Prop} {last fuel : Nat} {listed : Array Bool} (k : AH P ops Q U0 L0 last fuel listed e0 U l L) : AH P ops Q U0 L0 last fuel listed e0 (u :: U) l L := fun hok hc a w hf hs => k hok hc a w hf (hs.fewer 1 rfl)
end
section
open Go.RowKit
set_option maxRecDepth 100000 in
theorem subbed9_any (x y : Int) (w : World) (m1 : -1000000000000000 ≤ x) (m2 : x ≤ 1000000000000000) (n1 : -1000000000000000 ≤ y) (n2 : y ≤ 1000000000000000) : Calls Tryz.prog 62 #[(.int .i64 x), (.int .i64 y)] w (Ret (.agg #[.int .u64 (hi64 (x - y)), .int .u64 (lo64 (x - y)), .int .u64 (hi64 (x - y)), .int .u64 (lo64 (x - y))]) w) := by
 refine calls_ax (vs := [(.int .i64 x), (.int .i64 y)]) Tryz.func62 rfl rfl ?_
 refine ac_seq (ac_region ?_)
 refine al_nb (r_alloc Tryz.zeroValue129 rfl) ?_
 intro b1
 refine al_end (aq_then ?_)
 refine ac_seq (ac_region ?_)
 refine al_p (q_move rfl) (al_p (q_move rfl) ?_)
 refine al_p (q_sub rfl rfl om9) (al_call Tryz.call64 (.cons rfl .nil) rfl rfl (fun w1 hs1 => ?_))
 refine (number_any (x - y) _ om9 om9).mono ?_
 rintro e u1 ⟨rfl, hb_1⟩
 refine ⟨_, rfl, hb_1, ?_⟩
 clear hs1
 refine al_call Tryz.call63 (.cons rfl .nil) rfl rfl (fun w2 hs2 => ?_)
 refine (only_any (hi64 (x - y)) (lo64 (x - y)) _).mono ?_
 rintro e u2 ⟨rfl, hb_2⟩
 refine ⟨_, rfl, hb_2, ?_⟩
 clear hs2
 refine al_storeAll (i := 0) rfl rfl rfl rfl Tryz.sizeOf129 rfl rfl .k0 rfl (al_end (aq_then ?_))
 refine ac_ret (retR Tryz.results62 (.agg (i := 0) rfl rfl Tryz.isAgg129 Tryz.sizeOf129 rfl .nil) .one (fun w9 hs => ?_))
 exact ⟨rfl, hs.below⟩
set_option maxRecDepth 100000 in
theorem ehull9_any (a b c d : Int) (w : World) (ha : Fit a) (hb : Fit b) (hc : Fit c) (hd : Fit d) : Calls Tryz.prog 150 #[(.agg #[.int .u64 (hi64 a), .int .u64 (lo64 a), .int .u64 (hi64 b), .int .u64 (lo64 b)]), (.agg #[.int .u64 (hi64 c), .int .u64 (lo64 c), .int .u64 (hi64 d), .int .u64 (lo64 d)])] w (Ret (.agg #[.int .u64 (hi64 (min a c)), .int .u64 (lo64 (min a c)), .int .u64 (hi64 (max b d)), .int .u64 (lo64 (max b d))]) w) := by
 refine calls_ax (vs := [(.agg #[.int .u64 (hi64 a), .int .u64 (lo64 a), .int .u64 (hi64 b), .int .u64 (lo64 b)]), (.agg #[.int .u64 (hi64 c), .int .u64 (lo64 c), .int .u64 (hi64 d), .int .u64 (lo64 d)])]) Tryz.func150 rfl rfl ?_
 refine ac_seq (ac_region ?_)
 refine al_nb (r_box rfl rfl) ?_
 intro b1
 refine al_nb (r_box rfl rfl) ?_
 intro b2
 refine al_nb (r_alloc Tryz.zeroValue129 rfl) ?_
 intro b3
 refine al_end (aq_then ?_)
 refine ac_seq (ac_seq (ac_region ?_))
 refine al_p (q_fieldAddr 0 rfl Tryz.runUnderlying129 rfl Tryz.sizeOf127 de9 rfl) (al_p (q_loadSub (i := 1) rfl rfl Tryz.isAgg127 Tryz.sizeOf127 .k0 .k2) ?_)
 refine al_p (q_fieldAddr 0 rfl Tryz.runUnderlying129 rfl Tryz.sizeOf127 de9 rfl) (al_p (q_loadSub (i := 2) rfl rfl Tryz.isAgg127 Tryz.sizeOf127 .k0 .k2) (al_call Tryz.call165 (.cons rfl (.cons rfl .nil)) rfl rfl (fun w1 hs1 => ?_)))
 refine (below_any c a _ (by assumption) (by assumption)).mono ?_
 rintro e u1 ⟨rfl, hb_1⟩
 refine ⟨_, rfl, hb_1, ?_⟩
 clear hs1
 refine al_end (aq_then ?_)
 refine ac_cond rfl (fun h1 => ?_) (fun h1 => ?_)
 ·have q_h1 := of_decide_eq_true h1
  refine ac_region ?_
  refine al_p (q_fieldAddr 0 rfl Tryz.runUnderlying129 rfl Tryz.sizeOf127 de9 rfl) (al_p (q_loadSub (i := 1) rfl rfl Tryz.isAgg127 Tryz.sizeOf127 .k0 .k2) ?_)
  refine al_p (q_fieldAddr 0 rfl Tryz.runUnderlying129 rfl Tryz.sizeOf127 de9 rfl) (al_storeSub (i := 2) rfl rfl rfl Tryz.sizeOf127 rfl (.z (.s (.s (.z)))) rfl .k2 rfl (al_end (aq_then ?_)))
  refine ac_seq (ac_seq (ac_region ?_))
  refine al_p (q_fieldAddr 2 rfl Tryz.runUnderlying129 rfl Tryz.sizeOf127 de9 rfl) (al_p (q_loadSub (i := 2) rfl rfl Tryz.isAgg127 Tryz.sizeOf127 .k2 .k2) ?_)
  refine al_p (q_fieldAddr 2 rfl Tryz.runUnderlying129 rfl Tryz.sizeOf127 de9 rfl) (al_p (q_loadSub (i := 1) rfl rfl Tryz.isAgg127 Tryz.sizeOf127 .k2 .k2) (al_call Tryz.call165 (.cons rfl (.cons rfl .nil)) rfl rfl (fun w2 hs2 => ?_)))
  refine (below_any b d _ (by assumption) (by assumption)).mono ?_
  rintro e u2 ⟨rfl, hb_2⟩
  refine ⟨_, rfl, hb_2, ?_⟩
  clear hs2
  refine al_end (aq_then ?_)
  refine ac_cond rfl (fun h2 => ?_) (fun h2 => ?_)
  ·have q_h2 := of_decide_eq_true h2
   refine ac_region ?_
   refine al_p (q_fieldAddr 2 rfl Tryz.runUnderlying129 rfl Tryz.sizeOf127 de9 rfl) (al_p (q_loadSub (i := 1) rfl rfl Tryz.isAgg127 Tryz.sizeOf127 .k2 .k2) ?_)
   refine al_p (q_fieldAddr 2 rfl Tryz.runUnderlying129 rfl Tryz.sizeOf127 de9 rfl) (al_storeSub (i := 2) rfl rfl rfl Tryz.sizeOf127 rfl (.s (.s (.z (.s (.s (.z)))))) rfl .k2 rfl (al_end (aq_then ?_)))
   refine ac_seq (ac_region ?_)
   refine al_p (q_loadAll (i := 2) rfl rfl Tryz.isAgg129 Tryz.sizeOf129 rfl) (al_storeAll (i := 0) rfl rfl rfl rfl Tryz.sizeOf129 rfl rfl .k0 rfl (al_end (aq_then ?_)))
   refine ac_ret (retR Tryz.results150 (.agg (i := 0) rfl rfl Tryz.isAgg129 Tryz.sizeOf129 rfl .nil) .one (fun w9 hs => ?_))
   rw [show min a c = c by omega, show max b d = d by omega]; exact ⟨rfl, hs.below⟩
  ·have q_h2 := of_decide_eq_false h2
   refine ac_skip (aq_then (ac_seq (ac_region ?_)))
   refine al_p (q_loadAll (i := 2) rfl rfl Tryz.isAgg129 Tryz.sizeOf129 rfl) (al_storeAll (i := 0) rfl rfl rfl rfl Tryz.sizeOf129 rfl rfl .k0 rfl (al_end (aq_then ?_)))
   refine ac_ret (retR Tryz.results150 (.agg (i := 0) rfl rfl Tryz.isAgg129 Tryz.sizeOf129 rfl .nil) .one (fun w9 hs => ?_))
   rw [show min a c = c by omega, show max b d = b by omega]; exact ⟨rfl, hs.below⟩
 ·have q_h1 := of_decide_eq_false h1
  refine ac_skip (aq_then (ac_seq (ac_seq (ac_region ?_))))
  refine al_p (q_fieldAddr 2 rfl Tryz.runUnderlying129 rfl Tryz.sizeOf127 de9 rfl) (al_p (q_loadSub (i := 2) rfl rfl Tryz.isAgg127 Tryz.sizeOf127 .k2 .k2) ?_)
  refine al_p (q_fieldAddr 2 rfl Tryz.runUnderlying129 rfl Tryz.sizeOf127 de9 rfl) (al_p (q_loadSub (i := 1) rfl rfl Tryz.isAgg127 Tryz.sizeOf127 .k2 .k2) (al_call Tryz.call165 (.cons rfl (.cons rfl .nil)) rfl rfl (fun w3 hs3 => ?_)))
  refine (below_any b d _ (by assumption) (by assumption)).mono ?_
  rintro e u3 ⟨rfl, hb_3⟩
  refine ⟨_, rfl, hb_3, ?_⟩
  clear hs3
  refine al_end (aq_then ?_)
  refine ac_cond rfl (fun h3 => ?_) (fun h3 => ?_)
  ·have q_h3 := of_decide_eq_true h3
   refine ac_region ?_
   refine al_p (q_fieldAddr 2 rfl Tryz.runUnderlying129 rfl Tryz.sizeOf127 de9 rfl) (al_p (q_loadSub (i := 1) rfl rfl Tryz.isAgg127 Tryz.sizeOf127 .k2 .k2) ?_)
   refine al_p (q_fieldAddr 2 rfl Tryz.runUnderlying129 rfl Tryz.sizeOf127 de9 rfl) (al_storeSub (i := 2) rfl rfl rfl Tryz.sizeOf127 rfl (.s (.s (.z (.s (.s (.z)))))) rfl .k2 rfl (al_end (aq_then ?_)))
   refine ac_seq (ac_region ?_)
   refine al_p (q_loadAll (i := 2) rfl rfl Tryz.isAgg129 Tryz.sizeOf129 rfl) (al_storeAll (i := 0) rfl rfl rfl rfl Tryz.sizeOf129 rfl rfl .k0 rfl (al_end (aq_then ?_)))
   refine ac_ret (retR Tryz.results150 (.agg (i := 0) rfl rfl Tryz.isAgg129 Tryz.sizeOf129 rfl .nil) .one (fun w9 hs => ?_))
   rw [show min a c = a by omega, show max b d = d by omega]; exact ⟨rfl, hs.below⟩
  ·have q_h3 := of_decide_eq_false h3
   refine ac_skip (aq_then (ac_seq (ac_region ?_)))
   refine al_p (q_loadAll (i := 2) rfl rfl Tryz.isAgg129 Tryz.sizeOf129 rfl) (al_storeAll (i := 0) rfl rfl rfl rfl Tryz.sizeOf129 rfl rfl .k0 rfl (al_end (aq_then ?_)))
   refine ac_ret (retR Tryz.results150 (.agg (i := 0) rfl rfl Tryz.isAgg129 Tryz.sizeOf129 rfl .nil) .one (fun w9 hs => ?_))
   rw [show min a c = a by omega, show max b d = b by omega]; exact ⟨rfl, hs.below⟩
theorem cua_bl_apiSpan_0_1 (a0 a1 : Value) (ha0 : a0.oneCell' = true) (ha1 : a1.oneCell' = true) : ∀ w, (Instr.build 55 #[(0, a0), (1, a1)]).run Tryz.prog w = .ok (.agg #[a0, a1]) w := by
 have ea0 : a0.cells = #[a0] := cells_one ha0
 have ea1 : a1.cells = #[a1] := cells_one ha1
 intro w; simp [Instr.build, Instr.fill, cells_agg, Tryz.runUnderlying55, Tryz.zeroValue55, Tryz.sizeOf3, ea0, ea1]
set_option maxRecDepth 100000 in
theorem make9_any (x y : Int) (w : World) (h : vld x y = true) : Calls Tryz.prog 152 #[(.int .i64 x), (.int .i64 y)] w (Ret (.tuple #[Sp x y, .int .i64 0]) w) := by
 have e1 : min x y = x := by have := (vld_iff.1 h).1; omega
 have e2 : max x y = y := by have := (vld_iff.1 h).1; omega
 refine calls_ax (vs := [(.int .i64 x), (.int .i64 y)]) Tryz.func152 rfl rfl ?_
 refine ac_seq (ac_region ?_)
 refine al_nb (r_alloc Tryz.zeroValue55 rfl) ?_
 intro b1
 refine al_p (q_assign rfl) (al_end (aq_then ?_))
 refine ac_seq (ac_region ?_)
 refine al_p (q_move rfl) (al_p (q_move rfl) (al_p (q_min rfl rfl) (al_p (q_move rfl) (al_p (q_move rfl) ?_))))
 refine al_p (q_max rfl rfl) (al_p (q_build (.cons rfl (.cons rfl .nil)) (cua_bl_apiSpan_0_1 _ _ rfl rfl)) (al_new (fun b => .pointer (some ⟨b, 0, none⟩)) (r_alloc Tryz.zeroValue55 rfl) rfl rfl rfl ?_))
 intro b2
 refine al_storeAll (i := 0) rfl rfl rfl rfl Tryz.sizeOf55 rfl rfl .k0 rfl (al_end (aq_then ?_))
 refine ac_seq (ac_seq (ac_region ?_))
 refine al_p (q_loadAll (i := 0) rfl rfl Tryz.isAgg55 Tryz.sizeOf55 rfl) (al_call Tryz.call60 (.cons rfl .nil) rfl rfl (fun w1 hs1 => ?_))
 refine (valid_any (min x y) (max x y) _).mono ?_
 rintro e u1 ⟨rfl, hb_1⟩
 refine ⟨_, rfl, hb_1, ?_⟩
 clear hs1
 refine al_p (q_not rfl) (al_end (aq_then ?_))
 refine ac_cond rfl (fun h1 => ?_) (fun h1 => ?_)
 ·exact absurd h1 (by rw [e1, e2, h]; decide)
 ·skip
  refine ac_skip (aq_then (ac_seq (ac_region ?_)))
  refine al_p (q_loadAll (i := 0) rfl rfl Tryz.isAgg55 Tryz.sizeOf55 rfl) (al_storeAll (i := 1) rfl rfl rfl rfl Tryz.sizeOf55 rfl rfl .k1 rfl (al_p (q_assign rfl) (al_end (aq_then ?_))))
  refine ac_ret (retR Tryz.results152 (.agg (i := 1) rfl rfl Tryz.isAgg55 Tryz.sizeOf55 rfl (.tmp rfl .nil)) .two (fun w9 hs => ?_))
  rw [e1, e2]; exact ⟨rfl, hs.below⟩
set_option maxRecDepth 100000 in
theorem spread9_any (a b c d : Int) (w : World) (h1 : vld a b = true) (h2 : vld c d = true) : Calls Tryz.prog 112 #[(.agg #[.int .i64 a, .int .i64 b]), (.agg #[.int .i64 c, .int .i64 d]), (.func (.func 62) #[] #[])] w (Ret (.agg #[.int .u64 (hi64 (a - d)), .int .u64 (lo64 (a - d)), .int .u64 (hi64 (b - c)), .int .u64 (lo64 (b - c))]) w) := by
 have v1 := vld_iff.1 h1
 have v2 := vld_iff.1 h2
 refine calls_ax (vs := [(.agg #[.int .i64 a, .int .i64 b]), (.agg #[.int .i64 c, .int .i64 d]), (.func (.func 62) #[] #[])]) Tryz.func112 rfl rfl ?_
 refine ac_seq (ac_region ?_)
 refine al_nb (r_box rfl rfl) ?_
 intro b1
 refine al_nb (r_box rfl rfl) ?_
 intro b2
 refine al_nb (r_alloc Tryz.zeroValue129 rfl) ?_
 intro b3
 refine al_end (aq_then ?_)
 refine ac_seq (ac_draw 14 kr9 kr9 ?_)
 refine ah_share (fuel' := 1) (listed' := #[true, true, true, true, true, true, true, true, true, true, true, true, true, true, false]) (fun K => ∀ (b9001 : Nat), K [(2, (.func (.func 62) #[] #[])), (3, (.pointer (some ⟨b1, 0, none⟩))), (4, (.pointer (some ⟨b2, 0, none⟩))), (6, (.pointer (some ⟨b3, 0, none⟩))), (7, (.pointer (some ⟨b9001, 0, none⟩))), (21, (.agg #[.int .u64 (hi64 (min (a - c) (a - d))), .int .u64 (lo64 (min (a - c) (a - d))), .int .u64 (hi64 (max (a - c) (a - d))), .int .u64 (lo64 (max (a - c) (a - d)))]))] [(b9001, .cells [(.int .u64 0), (.int .u64 0), (.int .u64 0), (.int .u64 0)]), (b3, .cells [(.int .u64 0), (.int .u64 0), (.int .u64 0), (.int .u64 0)]), (b2, .cells [(.int .i64 c), (.int .i64 d)]), (b1, .cells [(.int .i64 a), (.int .i64 b)])]) ?_ (fun hS1_0 => ?_)
 ·intro b9001
  refine ah_one 14 rfl kr9 (fun hok1 hcl1 => ?_)
  refine al_storeAll (i := 0) rfl rfl rfl rfl Tryz.sizeOf129 rfl rfl .k0 rfl (al_end (ah_last kr9 ?_))
  refine aq_then (ac_seq (ac_draw 14 kr9 kr9 ?_))
  refine ah_share (fuel' := 1) (listed' := #[true, true, true, true, true, true, true, true, true, true, true, true, true, true, false]) (fun K => ∀ (b19001 : Nat), K [(6, (.pointer (some ⟨b3, 0, none⟩))), (7, (.pointer (some ⟨b9001, 0, none⟩))), (8, (.pointer (some ⟨b19001, 0, none⟩))), (34, (.agg #[.int .u64 (hi64 (min (b - c) (b - d))), .int .u64 (lo64 (min (b - c) (b - d))), .int .u64 (hi64 (max (b - c) (b - d))), .int .u64 (lo64 (max (b - c) (b - d)))]))] [(b19001, .cells [(.int .u64 0), (.int .u64 0), (.int .u64 0), (.int .u64 0)]), (b9001, .cells [(.int .u64 (hi64 (min (a - c) (a - d)))), (.int .u64 (lo64 (min (a - c) (a - d)))), (.int .u64 (hi64 (max (a - c) (a - d)))), (.int .u64 (lo64 (max (a - c) (a - d))))]), (b3, .cells [(.int .u64 0), (.int .u64 0), (.int .u64 0), (.int .u64 0)]), (b2, .cells [(.int .i64 c), (.int .i64 d)]), (b1, .cells [(.int .i64 a), (.int .i64 b)])]) ?_ (fun hS2_0 => ?_)
  ·intro b19001
   refine ah_one 14 rfl kr9 (fun hok2 hcl2 => ?_)
   refine al_storeAll (i := 0) rfl rfl rfl rfl Tryz.sizeOf129 rfl rfl .k0 rfl (al_end (ah_last kr9 ?_))
   refine aq_then (ac_seq (ac_region ?_))
   refine al_p (q_loadAll (i := 1) rfl rfl Tryz.isAgg129 Tryz.sizeOf129 rfl) (al_p (q_loadAll (i := 0) rfl rfl Tryz.isAgg129 Tryz.sizeOf129 rfl) (al_call Tryz.call150 (.cons rfl (.cons rfl .nil)) rfl rfl (fun w13 hs13 => ?_)))
   refine (ehull9_any (min (a - c) (a - d)) (max (a - c) (a - d)) (min (b - c) (b - d)) (max (b - c) (b - d)) _ (by unfold Fit; omega) (by unfold Fit; omega) (by unfold Fit; omega) (by unfold Fit; omega)).mono ?_
   rintro e u13 ⟨rfl, hb_13⟩
   refine ⟨_, rfl, hb_13, ?_⟩
   clear hs13
   refine al_storeAll (i := 2) rfl rfl rfl rfl Tryz.sizeOf129 rfl rfl .k2 rfl (al_end (aq_then ?_))
   refine ac_ret (retR Tryz.results112 (.agg (i := 2) rfl rfl Tryz.isAgg129 Tryz.sizeOf129 rfl .nil) .one (fun w9 hs => ?_))
   rw [show min (min (a - c) (a - d)) (min (b - c) (b - d)) = a - d by omega, show max (max (a - c) (a - d)) (max (b - c) (b - d)) = b - c by omega]; exact ⟨rfl, hs.below⟩
  refine ah_share (fuel' := 2) (listed' := #[true, true, true, true, true, true, true, true, true, true, true, true, false, true, false]) (fun K => ∀ (b17001 : Nat), K [(6, (.pointer (some ⟨b3, 0, none⟩))), (7, (.pointer (some ⟨b9001, 0, none⟩))), (8, (.pointer (some ⟨b17001, 0, none⟩))), (27, (.agg #[.int .u64 (hi64 (b - c)), .int .u64 (lo64 (b - c)), .int .u64 (hi64 (b - c)), .int .u64 (lo64 (b - c))])), (33, (.agg #[.int .u64 (hi64 (b - d)), .int .u64 (lo64 (b - d)), .int .u64 (hi64 (b - d)), .int .u64 (lo64 (b - d))]))] [(b17001, .cells [(.int .u64 0), (.int .u64 0), (.int .u64 0), (.int .u64 0)]), (b9001, .cells [(.int .u64 (hi64 (min (a - c) (a - d)))), (.int .u64 (lo64 (min (a - c) (a - d)))), (.int .u64 (hi64 (max (a - c) (a - d)))), (.int .u64 (lo64 (max (a - c) (a - d))))]), (b3, .cells [(.int .u64 0), (.int .u64 0), (.int .u64 0), (.int .u64 0)]), (b2, .cells [(.int .i64 c), (.int .i64 d)]), (b1, .cells [(.int .i64 a), (.int .i64 b)])]) ?_ (fun hS2_1 => ?_)
  ·intro b17001
   refine ah_one 12 rfl kr9 (fun hok3 hcl3 => ?_)
   refine al_call Tryz.call150 (.cons rfl (.cons rfl .nil)) rfl rfl (fun w14 hs14 => ?_)
   refine (ehull9_any (b - c) (b - c) (b - d) (b - d) _ (by unfold Fit; omega) (by unfold Fit; omega) (by unfold Fit; omega) (by unfold Fit; omega)).mono ?_
   rintro e u14 ⟨rfl, hb_14⟩
   refine ⟨_, rfl, hb_14, ?_⟩
   clear hs14
   refine al_end (ah_back hok3 hcl3 (fun w9 hs => ((hs.fewer 1 rfl).tail 1 rfl)) ?_)
   refine ah_few ?_
   exact ah_to (hS2_0 b17001) rfl kr9 ⟨rfl, rfl, rfl, rfl, trivial⟩ (fun w9 hs => hs)
  refine ah_share (fuel' := 3) (listed' := #[true, true, true, true, true, true, true, true, true, true, true, false, false, true, false]) (fun K => ∀ (b14001 : Nat), K [(6, (.pointer (some ⟨b3, 0, none⟩))), (7, (.pointer (some ⟨b9001, 0, none⟩))), (8, (.pointer (some ⟨b14001, 0, none⟩))), (27, (.agg #[.int .u64 (hi64 (b - c)), .int .u64 (lo64 (b - c)), .int .u64 (hi64 (b - c)), .int .u64 (lo64 (b - c))])), (28, (.func (.func 62) #[] #[])), (30, (.int .i64 b)), (32, (.int .i64 d))] [(b14001, .cells [(.int .u64 0), (.int .u64 0), (.int .u64 0), (.int .u64 0)]), (b9001, .cells [(.int .u64 (hi64 (min (a - c) (a - d)))), (.int .u64 (lo64 (min (a - c) (a - d)))), (.int .u64 (hi64 (max (a - c) (a - d)))), (.int .u64 (lo64 (max (a - c) (a - d))))]), (b3, .cells [(.int .u64 0), (.int .u64 0), (.int .u64 0), (.int .u64 0)]), (b2, .cells [(.int .i64 c), (.int .i64 d)]), (b1, .cells [(.int .i64 a), (.int .i64 b)])]) ?_ (fun hS2_2 => ?_)
  ·intro b14001
   refine ah_one 11 rfl kr9 (fun hok4 hcl4 => ?_)
   refine al_callV (fi := []) (ca := []) rfl Tryz.call62 (.cons rfl (.cons rfl .nil)) rfl rfl (fun w15 hs15 => ?_)
   refine (subbed9_any b d _ om9 om9 om9 om9).mono ?_
   rintro e u15 ⟨rfl, hb_15⟩
   refine ⟨_, rfl, hb_15, ?_⟩
   clear hs15
   refine al_end (ah_back hok4 hcl4 (fun w9 hs => ((hs.fewer 1 rfl).tail 1 rfl)) ?_)
   refine ah_few ?_
   exact ah_to (hS2_1 b14001) rfl kr9 ⟨rfl, rfl, rfl, rfl, rfl, trivial⟩ (fun w9 hs => hs)
  ·refine ah_t 0 (fun w9 hs => hs) rfl rfl kr9 (q_move rfl) ?_
   refine ah_t 1 (fun w9 hs => hs) rfl rfl kr9 (q_fieldAddr 1 rfl Tryz.runUnderlying55 rfl Tryz.sizeOf3 de9 rfl) (ah_t 2 (fun w9 hs => hs) rfl rfl kr9 (q_load (i := 3) rfl rfl rfl Tryz.isAgg3) ?_)
   refine ah_t 3 (fun w9 hs => hs) rfl rfl kr9 (q_fieldAddr 0 rfl Tryz.runUnderlying55 rfl Tryz.sizeOf3 de9 rfl) (ah_t 4 (fun w9 hs => hs) rfl rfl kr9 (q_load (i := 2) rfl rfl rfl Tryz.isAgg3) (ah_t 6 (fun w9 hs => hs) rfl rfl kr9 (q_move rfl) ?_))
   refine ah_t 7 (fun w9 hs => hs) rfl rfl kr9 (q_fieldAddr 1 rfl Tryz.runUnderlying55 rfl Tryz.sizeOf3 de9 rfl) (ah_t 8 (fun w9 hs => hs) rfl rfl kr9 (q_load (i := 3) rfl rfl rfl Tryz.isAgg3) ?_)
   refine ah_t 9 (fun w9 hs => hs) rfl rfl kr9 (q_fieldAddr 1 rfl Tryz.runUnderlying55 rfl Tryz.sizeOf3 de9 rfl) (ah_t 10 (fun w9 hs => hs) rfl rfl kr9 (q_load (i := 2) rfl rfl rfl Tryz.isAgg3) ?_)
   refine ah_two 5 13 rfl rfl  kr9 (fun hok5 hcl5 => ?_) (fun hok5 hcl5 => ?_)
   ·refine al_callV (fi := []) (ca := []) rfl Tryz.call62 (.cons rfl (.cons rfl .nil)) rfl rfl (fun w16 hs16 => ?_)
    refine (subbed9_any b c _ om9 om9 om9 om9).mono ?_
    rintro e u16 ⟨rfl, hb_16⟩
    refine ⟨_, rfl, hb_16, ?_⟩
    clear hs16
    refine al_end (ah_back hok5 hcl5 (fun w9 hs => (hs.fewer 1 rfl)) ?_)
    refine ah_few ?_
    refine ah_two 11 13 rfl rfl  kr9 (fun hok6 hcl6 => ?_) (fun hok6 hcl6 => ?_)
    ·refine al_callV (fi := []) (ca := []) rfl Tryz.call62 (.cons rfl (.cons rfl .nil)) rfl rfl (fun w17 hs17 => ?_)
     refine (subbed9_any b d _ om9 om9 om9 om9).mono ?_
     rintro e u17 ⟨rfl, hb_17⟩
     refine ⟨_, rfl, hb_17, ?_⟩
     clear hs17
     refine al_end (ah_back hok6 hcl6 (fun w9 hs => (hs.fewer 1 rfl)) ?_)
     refine ah_few ?_
     refine ah_two 12 13 rfl rfl  kr9 (fun hok7 hcl7 => ?_) (fun hok7 hcl7 => ?_)
     ·refine al_call Tryz.call150 (.cons rfl (.cons rfl .nil)) rfl rfl (fun w18 hs18 => ?_)
      refine (ehull9_any (b - c) (b - c) (b - d) (b - d) _ (by unfold Fit; omega) (by unfold Fit; omega) (by unfold Fit; omega) (by unfold Fit; omega)).mono ?_
      rintro e u18 ⟨rfl, hb_18⟩
      refine ⟨_, rfl, hb_18, ?_⟩
      clear hs18
      refine al_end (ah_back hok7 hcl7 (fun w9 hs => (hs.fewer 1 rfl)) ?_)
      refine ah_few ?_
      refine ah_one 13 rfl kr9 (fun hok8 hcl8 => ?_)
      refine al_nb (r_alloc Tryz.zeroValue129 rfl) ?_
      intro b4
      refine al_end (ah_back hok8 hcl8 (fun w9 hs => (hs.tail 1 rfl)) ?_)
      exact ah_to (hS2_0 b4) rfl kr9 ⟨rfl, rfl, rfl, rfl, trivial⟩ (fun w9 hs => hs)
     ·refine al_nb (r_alloc Tryz.zeroValue129 rfl) ?_
      intro b5
      refine al_end (ah_back hok7 hcl7 (fun w9 hs => (hs.tail 1 rfl)) ?_)
      exact ah_to (hS2_1 b5) rfl kr9 ⟨rfl, rfl, rfl, rfl, rfl, trivial⟩ (fun w9 hs => hs)
    ·refine al_nb (r_alloc Tryz.zeroValue129 rfl) ?_
     intro b6
     refine al_end (ah_back hok6 hcl6 (fun w9 hs => (hs.tail 1 rfl)) ?_)
     exact ah_to (hS2_2 b6) rfl kr9 ⟨rfl, rfl, rfl, rfl, rfl, rfl, rfl, trivial⟩ (fun w9 hs => hs)
   ·refine al_nb (r_alloc Tryz.zeroValue129 rfl) ?_
    intro b7
    refine al_end (ah_back hok5 hcl5 (fun w9 hs => (hs.tail 1 rfl)) ?_)
    refine ah_one 5 rfl kr9 (fun hok9 hcl9 => ?_)
    refine al_callV (fi := []) (ca := []) rfl Tryz.call62 (.cons rfl (.cons rfl .nil)) rfl rfl (fun w19 hs19 => ?_)
    refine (subbed9_any b c _ om9 om9 om9 om9).mono ?_
    rintro e u19 ⟨rfl, hb_19⟩
    refine ⟨_, rfl, hb_19, ?_⟩
    clear hs19
    refine al_end (ah_back hok9 hcl9 (fun w9 hs => ((hs.fewer 1 rfl).tail 1 rfl)) ?_)
    refine ah_few ?_
    exact ah_to (hS2_2 b7) rfl kr9 ⟨rfl, rfl, rfl, rfl, rfl, rfl, rfl, trivial⟩ (fun w9 hs => hs)
 refine ah_share (fuel' := 2) (listed' := #[true, true, true, true, true, true, true, true, true, true, true, true, false, true, false]) (fun K => ∀ (b7001 : Nat), K [(2, (.func (.func 62) #[] #[])), (3, (.pointer (some ⟨b1, 0, none⟩))), (4, (.pointer (some ⟨b2, 0, none⟩))), (6, (.pointer (some ⟨b3, 0, none⟩))), (7, (.pointer (some ⟨b7001, 0, none⟩))), (14, (.agg #[.int .u64 (hi64 (a - c)), .int .u64 (lo64 (a - c)), .int .u64 (hi64 (a - c)), .int .u64 (lo64 (a - c))])), (20, (.agg #[.int .u64 (hi64 (a - d)), .int .u64 (lo64 (a - d)), .int .u64 (hi64 (a - d)), .int .u64 (lo64 (a - d))]))] [(b7001, .cells [(.int .u64 0), (.int .u64 0), (.int .u64 0), (.int .u64 0)]), (b3, .cells [(.int .u64 0), (.int .u64 0), (.int .u64 0), (.int .u64 0)]), (b2, .cells [(.int .i64 c), (.int .i64 d)]), (b1, .cells [(.int .i64 a), (.int .i64 b)])]) ?_ (fun hS1_1 => ?_)
 ·intro b7001
  refine ah_one 12 rfl kr9 (fun hok10 hcl10 => ?_)
  refine al_call Tryz.call150 (.cons rfl (.cons rfl .nil)) rfl rfl (fun w20 hs20 => ?_)
  refine (ehull9_any (a - c) (a - c) (a - d) (a - d) _ (by unfold Fit; omega) (by unfold Fit; omega) (by unfold Fit; omega) (by unfold Fit; omega)).mono ?_
  rintro e u20 ⟨rfl, hb_20⟩
  refine ⟨_, rfl, hb_20, ?_⟩
  clear hs20
  refine al_end (ah_back hok10 hcl10 (fun w9 hs => ((hs.fewer 1 rfl).tail 1 rfl)) ?_)
  refine ah_few ?_
  exact ah_to (hS1_0 b7001) rfl kr9 ⟨rfl, rfl, rfl, rfl, rfl, rfl, trivial⟩ (fun w9 hs => hs)
 refine ah_share (fuel' := 3) (listed' := #[true, true, true, true, true, true, true, true, true, true, true, false, false, true, false]) (fun K => ∀ (b4001 : Nat), K [(2, (.func (.func 62) #[] #[])), (3, (.pointer (some ⟨b1, 0, none⟩))), (4, (.pointer (some ⟨b2, 0, none⟩))), (6, (.pointer (some ⟨b3, 0, none⟩))), (7, (.pointer (some ⟨b4001, 0, none⟩))), (14, (.agg #[.int .u64 (hi64 (a - c)), .int .u64 (lo64 (a - c)), .int .u64 (hi64 (a - c)), .int .u64 (lo64 (a - c))])), (15, (.func (.func 62) #[] #[])), (17, (.int .i64 a)), (19, (.int .i64 d))] [(b4001, .cells [(.int .u64 0), (.int .u64 0), (.int .u64 0), (.int .u64 0)]), (b3, .cells [(.int .u64 0), (.int .u64 0), (.int .u64 0), (.int .u64 0)]), (b2, .cells [(.int .i64 c), (.int .i64 d)]), (b1, .cells [(.int .i64 a), (.int .i64 b)])]) ?_ (fun hS1_2 => ?_)
 ·intro b4001
  refine ah_one 11 rfl kr9 (fun hok11 hcl11 => ?_)
  refine al_callV (fi := []) (ca := []) rfl Tryz.call62 (.cons rfl (.cons rfl .nil)) rfl rfl (fun w21 hs21 => ?_)
  refine (subbed9_any a d _ om9 om9 om9 om9).mono ?_
  rintro e u21 ⟨rfl, hb_21⟩
  refine ⟨_, rfl, hb_21, ?_⟩
  clear hs21
  refine al_end (ah_back hok11 hcl11 (fun w9 hs => ((hs.fewer 1 rfl).tail 1 rfl)) ?_)
  refine ah_few ?_
  exact ah_to (hS1_1 b4001) rfl kr9 ⟨rfl, rfl, rfl, rfl, rfl, rfl, rfl, trivial⟩ (fun w9 hs => hs)
 ·refine ah_t 0 (fun w9 hs => hs) rfl rfl kr9 (q_move rfl) ?_
  refine ah_t 1 (fun w9 hs => hs) rfl rfl kr9 (q_fieldAddr 0 rfl Tryz.runUnderlying55 rfl Tryz.sizeOf3 de9 rfl) (ah_t 2 (fun w9 hs => hs) rfl rfl kr9 (q_load (i := 2) rfl rfl rfl Tryz.isAgg3) ?_)
  refine ah_t 3 (fun w9 hs => hs) rfl rfl kr9 (q_fieldAddr 0 rfl Tryz.runUnderlying55 rfl Tryz.sizeOf3 de9 rfl) (ah_t 4 (fun w9 hs => hs) rfl rfl kr9 (q_load (i := 1) rfl rfl rfl Tryz.isAgg3) (ah_t 6 (fun w9 hs => hs) rfl rfl kr9 (q_move rfl) ?_))
  refine ah_t 7 (fun w9 hs => hs) rfl rfl kr9 (q_fieldAddr 0 rfl Tryz.runUnderlying55 rfl Tryz.sizeOf3 de9 rfl) (ah_t 8 (fun w9 hs => hs) rfl rfl kr9 (q_load (i := 2) rfl rfl rfl Tryz.isAgg3) ?_)
  refine ah_t 9 (fun w9 hs => hs) rfl rfl kr9 (q_fieldAddr 1 rfl Tryz.runUnderlying55 rfl Tryz.sizeOf3 de9 rfl) (ah_t 10 (fun w9 hs => hs) rfl rfl kr9 (q_load (i := 1) rfl rfl rfl Tryz.isAgg3) ?_)
  refine ah_two 5 13 rfl rfl  kr9 (fun hok12 hcl12 => ?_) (fun hok12 hcl12 => ?_)
  ·refine al_callV (fi := []) (ca := []) rfl Tryz.call62 (.cons rfl (.cons rfl .nil)) rfl rfl (fun w22 hs22 => ?_)
   refine (subbed9_any a c _ om9 om9 om9 om9).mono ?_
   rintro e u22 ⟨rfl, hb_22⟩
   refine ⟨_, rfl, hb_22, ?_⟩
   clear hs22
   refine al_end (ah_back hok12 hcl12 (fun w9 hs => (hs.fewer 1 rfl)) ?_)
   refine ah_few ?_
   refine ah_two 11 13 rfl rfl  kr9 (fun hok13 hcl13 => ?_) (fun hok13 hcl13 => ?_)
   ·refine al_callV (fi := []) (ca := []) rfl Tryz.call62 (.cons rfl (.cons rfl .nil)) rfl rfl (fun w23 hs23 => ?_)
    refine (subbed9_any a d _ om9 om9 om9 om9).mono ?_
    rintro e u23 ⟨rfl, hb_23⟩
    refine ⟨_, rfl, hb_23, ?_⟩
    clear hs23
    refine al_end (ah_back hok13 hcl13 (fun w9 hs => (hs.fewer 1 rfl)) ?_)
    refine ah_few ?_
    refine ah_two 12 13 rfl rfl  kr9 (fun hok14 hcl14 => ?_) (fun hok14 hcl14 => ?_)
    ·refine al_call Tryz.call150 (.cons rfl (.cons rfl .nil)) rfl rfl (fun w24 hs24 => ?_)
     refine (ehull9_any (a - c) (a - c) (a - d) (a - d) _ (by unfold Fit; omega) (by unfold Fit; omega) (by unfold Fit; omega) (by unfold Fit; omega)).mono ?_
     rintro e u24 ⟨rfl, hb_24⟩
     refine ⟨_, rfl, hb_24, ?_⟩
     clear hs24
     refine al_end (ah_back hok14 hcl14 (fun w9 hs => (hs.fewer 1 rfl)) ?_)
     refine ah_few ?_
     refine ah_one 13 rfl kr9 (fun hok15 hcl15 => ?_)
     refine al_nb (r_alloc Tryz.zeroValue129 rfl) ?_
     intro b8
     refine al_end (ah_back hok15 hcl15 (fun w9 hs => (hs.tail 1 rfl)) ?_)
     exact ah_to (hS1_0 b8) rfl kr9 ⟨rfl, rfl, rfl, rfl, rfl, rfl, trivial⟩ (fun w9 hs => hs)
    ·refine al_nb (r_alloc Tryz.zeroValue129 rfl) ?_
     intro b9
     refine al_end (ah_back hok14 hcl14 (fun w9 hs => (hs.tail 1 rfl)) ?_)
     exact ah_to (hS1_1 b9) rfl kr9 ⟨rfl, rfl, rfl, rfl, rfl, rfl, rfl, trivial⟩ (fun w9 hs => hs)
   ·refine al_nb (r_alloc Tryz.zeroValue129 rfl) ?_
    intro b10
    refine al_end (ah_back hok13 hcl13 (fun w9 hs => (hs.tail 1 rfl)) ?_)
    exact ah_to (hS1_2 b10) rfl kr9 ⟨rfl, rfl, rfl, rfl, rfl, rfl, rfl, rfl, rfl, trivial⟩ (fun w9 hs => hs)
  ·refine al_nb (r_alloc Tryz.zeroValue129 rfl) ?_
   intro b11
   refine al_end (ah_back hok12 hcl12 (fun w9 hs => (hs.tail 1 rfl)) ?_)
   refine ah_one 5 rfl kr9 (fun hok16 hcl16 => ?_)
   refine al_callV (fi := []) (ca := []) rfl Tryz.call62 (.cons rfl (.cons rfl .nil)) rfl rfl (fun w25 hs25 => ?_)
   refine (subbed9_any a c _ om9 om9 om9 om9).mono ?_
   rintro e u25 ⟨rfl, hb_25⟩
   refine ⟨_, rfl, hb_25, ?_⟩
   clear hs25
   refine al_end (ah_back hok16 hcl16 (fun w9 hs => ((hs.fewer 1 rfl).tail 1 rfl)) ?_)
   refine ah_few ?_
   exact ah_to (hS1_2 b11) rfl kr9 ⟨rfl, rfl, rfl, rfl, rfl, rfl, rfl, rfl, rfl, trivial⟩ (fun w9 hs => hs)
set_option maxRecDepth 100000 in
theorem espan9_any (a b : Int) (w : World) (h : vld a b = true) : Calls Tryz.prog 113 #[(.agg #[.int .u64 (hi64 a), .int .u64 (lo64 a), .int .u64 (hi64 b), .int .u64 (lo64 b)])] w (Ret (.tuple #[Sp a b, .int .i64 0]) w) := by
 have v1 := vld_iff.1 h
 refine calls_ax (vs := [(.agg #[.int .u64 (hi64 a), .int .u64 (lo64 a), .int .u64 (hi64 b), .int .u64 (lo64 b)])]) Tryz.func113 rfl rfl ?_
 refine ac_seq (ac_region ?_)
 refine al_nb (r_box rfl rfl) ?_
 intro b1
 refine al_nb (r_alloc Tryz.zeroValue55 rfl) ?_
 intro b2
 refine al_p (q_assign rfl) (al_end (aq_then ?_))
 refine ac_seq (ac_region ?_)
 refine al_p (q_fieldAddr 0 rfl Tryz.runUnderlying129 rfl Tryz.sizeOf127 de9 rfl) (al_p (q_loadSub (i := 1) rfl rfl Tryz.isAgg127 Tryz.sizeOf127 .k0 .k2) (al_call Tryz.call151 (.cons rfl .nil) rfl rfl (fun w1 hs1 => ?_)))
 refine (narrow_yes a _ om9 om9).mono ?_
 rintro e u1 ⟨rfl, hb_1⟩
 refine ⟨_, rfl, hb_1, ?_⟩
 clear hs1
 refine al_p (q_move rfl) (al_p (q_extract rfl rfl) (al_p (q_extract rfl rfl) (al_p (q_assign rfl) (al_p (q_assign rfl) ?_))))
 refine al_end (aq_then ?_)
 refine ac_seq (ac_region ?_)
 refine al_p (q_fieldAddr 2 rfl Tryz.runUnderlying129 rfl Tryz.sizeOf127 de9 rfl) (al_p (q_loadSub (i := 1) rfl rfl Tryz.isAgg127 Tryz.sizeOf127 .k2 .k2) (al_call Tryz.call151 (.cons rfl .nil) rfl rfl (fun w2 hs2 => ?_)))
 refine (narrow_yes b _ om9 om9).mono ?_
 rintro e u2 ⟨rfl, hb_2⟩
 refine ⟨_, rfl, hb_2, ?_⟩
 clear hs2
 refine al_p (q_move rfl) (al_p (q_extract rfl rfl) (al_p (q_extract rfl rfl) (al_p (q_assign rfl) (al_p (q_assign rfl) ?_))))
 refine al_end (aq_then ?_)
 refine ac_seq (ac_seq (ac_region ?_))
 refine al_p (q_move rfl) (al_p (q_not rfl) (al_p (q_move rfl) (al_p (q_move rfl) (al_p (q_not rfl) ?_))))
 refine al_p (q_pickF rfl rfl) (al_end (aq_then ?_))
 refine ac_condF rfl (ac_skip (aq_then (ac_seq (ac_region ?_))))
 refine al_p (q_move rfl) (al_p (q_move rfl) (al_call Tryz.call152 (.cons rfl (.cons rfl .nil)) rfl rfl (fun w3 hs3 => ?_)))
 refine (make9_any a b _ h).mono ?_
 rintro e u3 ⟨rfl, hb_3⟩
 refine ⟨_, rfl, hb_3, ?_⟩
 clear hs3
 refine al_p (q_extract rfl rfl) (al_p (q_extract rfl rfl) (al_storeAll (i := 0) rfl rfl rfl rfl Tryz.sizeOf55 rfl rfl .k0 rfl (al_p (q_assign rfl) (al_end (aq_then ?_)))))
 refine ac_ret (retR Tryz.results113 (.agg (i := 0) rfl rfl Tryz.isAgg55 Tryz.sizeOf55 rfl (.tmp rfl .nil)) .two (fun w9 hs => ?_))
 exact ⟨rfl, hs.below⟩
theorem valid_yes {a b : Int} {w : World} (h : vld a b = true) : Calls Tryz.prog 60 #[Sp a b] w (Ret (.bool true) w) := by
 have := valid_any a b w
 rwa [h] at this
set_option maxRecDepth 100000 in
theorem combine9_any (a b c d : Int) (w : World) (h1 : vld a b = true) (h2 : vld c d = true) (h3 : vld (a - d) (b - c) = true) : Calls Tryz.prog 61 #[(.agg #[.int .i64 a, .int .i64 b]), (.agg #[.int .i64 c, .int .i64 d]), (.func (.func 62) #[] #[])] w (Ret (.tuple #[Sp (a - d) (b - c), .int .i64 0]) w) := by
 refine calls_ax (vs := [(.agg #[.int .i64 a, .int .i64 b]), (.agg #[.int .i64 c, .int .i64 d]), (.func (.func 62) #[] #[])]) Tryz.func61 rfl rfl ?_
 refine ac_seq (ac_region ?_)
 refine al_nb (r_box rfl rfl) ?_
 intro b1
 refine al_nb (r_box rfl rfl) ?_
 intro b2
 refine al_nb (r_alloc Tryz.zeroValue55 rfl) ?_
 intro b3
 refine al_p (q_assign rfl) (al_end (aq_then ?_))
 refine ac_seq (ac_seq (ac_region ?_))
 refine al_p (q_loadAll (i := 2) rfl rfl Tryz.isAgg55 Tryz.sizeOf55 rfl) (al_call Tryz.call60 (.cons rfl .nil) rfl rfl (fun w1 hs1 => ?_))
 refine (valid_yes h1).mono ?_
 rintro e u1 ⟨rfl, hb_1⟩
 refine ⟨_, rfl, hb_1, ?_⟩
 clear hs1
 refine al_p (q_not rfl) (al_p (q_move rfl) (al_p (q_loadAll (i := 1) rfl rfl Tryz.isAgg55 Tryz.sizeOf55 rfl) (al_call Tryz.call60 (.cons rfl .nil) rfl rfl (fun w2 hs2 => ?_))))
 refine (valid_yes h2).mono ?_
 rintro e u2 ⟨rfl, hb_2⟩
 refine ⟨_, rfl, hb_2, ?_⟩
 clear hs2
 refine al_p (q_not rfl) (al_p (q_pickF rfl rfl) (al_end (aq_then ?_)))
 refine ac_condF rfl (ac_skip (aq_then (ac_seq (ac_region ?_))))
 refine al_p (q_loadAll (i := 2) rfl rfl Tryz.isAgg55 Tryz.sizeOf55 rfl) (al_p (q_loadAll (i := 1) rfl rfl Tryz.isAgg55 Tryz.sizeOf55 rfl) (al_p (q_move rfl) (al_call Tryz.call112 (.cons rfl (.cons rfl (.cons rfl .nil))) rfl rfl (fun w3 hs3 => ?_))))
 refine (spread9_any a b c d _ h1 h2).mono ?_
 rintro e u3 ⟨rfl, hb_3⟩
 refine ⟨_, rfl, hb_3, ?_⟩
 clear hs3
 refine al_call Tryz.call113 (.cons rfl .nil) rfl rfl (fun w4 hs4 => ?_)
 refine (espan9_any (a - d) (b - c) _ h3).mono ?_
 rintro e u4 ⟨rfl, hb_4⟩
 refine ⟨_, rfl, hb_4, ?_⟩
 clear hs4
 refine al_p (q_extract rfl rfl) (al_p (q_extract rfl rfl) (al_storeAll (i := 0) rfl rfl rfl rfl Tryz.sizeOf55 rfl rfl .k0 rfl (al_p (q_assign rfl) (al_end (aq_then ?_)))))
 refine ac_ret (retR Tryz.results61 (.agg (i := 0) rfl rfl Tryz.isAgg55 Tryz.sizeOf55 rfl (.tmp rfl .nil)) .two (fun w9 hs => ?_))
 exact ⟨rfl, hs.below⟩
set_option maxRecDepth 100000 in
theorem sub9_any (a b c d : Int) (w : World) (h1 : vld a b = true) (h2 : vld c d = true) (h3 : vld (a - d) (b - c) = true) : Calls Tryz.prog 32 #[(.agg #[.int .i64 a, .int .i64 b]), (.agg #[.int .i64 c, .int .i64 d])] w (Ret (.tuple #[Sp (a - d) (b - c), .int .i64 0]) w) := by
 refine calls_ax (vs := [(.agg #[.int .i64 a, .int .i64 b]), (.agg #[.int .i64 c, .int .i64 d])]) Tryz.func32 rfl rfl ?_
 refine ac_seq (ac_region ?_)
 refine al_nb (r_box rfl rfl) ?_
 intro b1
 refine al_nb (r_box rfl rfl) ?_
 intro b2
 refine al_nb (r_alloc Tryz.zeroValue55 rfl) ?_
 intro b3
 refine al_p (q_assign rfl) (al_end (aq_then ?_))
 refine ac_seq (ac_region ?_)
 refine al_p (q_loadAll (i := 2) rfl rfl Tryz.isAgg55 Tryz.sizeOf55 rfl) (al_p (q_loadAll (i := 1) rfl rfl Tryz.isAgg55 Tryz.sizeOf55 rfl) (al_call Tryz.call61 (.cons rfl (.cons rfl (.cons rfl .nil))) rfl rfl (fun w1 hs1 => ?_)))
 refine (combine9_any a b c d _ h1 h2 h3).mono ?_
 rintro e u1 ⟨rfl, hb_1⟩
 refine ⟨_, rfl, hb_1, ?_⟩
 clear hs1
 refine al_p (q_extract rfl rfl) (al_p (q_extract rfl rfl) (al_storeAll (i := 0) rfl rfl rfl rfl Tryz.sizeOf55 rfl rfl .k0 rfl (al_p (q_assign rfl) (al_end (aq_then ?_)))))
 refine ac_ret (retR Tryz.results32 (.agg (i := 0) rfl rfl Tryz.isAgg55 Tryz.sizeOf55 rfl (.tmp rfl .nil)) .two (fun w9 hs => ?_))
 exact ⟨rfl, hs.below⟩
end
section
open Go.RowKit Go.Shelf
def whj (g n : Nat → Int) : Nat → Int
 | 0 => 0
 | j + 1 => whj g n j + g j * (n j).tdiv 1000
def rsj (g n : Nat → Int) : Nat → Int
 | 0 => 0
 | j + 1 => rsj g n j + g j * (n j).tmod 1000
theorem prod_in {a b A B : Int} (a0 : -A ≤ a) (a1 : a ≤ A) (b0 : -B ≤ b) (b1 : b ≤ B) : -(A * B) ≤ a * b ∧ a * b ≤ A * B := by
 have hA : 0 ≤ A := by omega
 have hB : 0 ≤ B := by omega
 have h := Int.mul_le_mul (show (a.natAbs : Int) ≤ A by omega) (show (b.natAbs : Int) ≤ B by omega) om9 hA
 have h2 : ((a * b).natAbs : Int) = (a.natAbs : Int) * (b.natAbs : Int) := by rw [Int.natAbs_mul]; rfl
 omega
theorem tmod_in (a : Int) : -999 ≤ a.tmod 1000 ∧ a.tmod 1000 ≤ 999 := by
 have h := Int.tmod_lt_of_pos a (by decide : (0 : Int) < 1000)
 have h2 := Int.tmod_lt_of_pos (-a) (by decide : (0 : Int) < 1000)
 rw [Int.neg_tmod] at h2
 omega
theorem td_in {a : Int} (h0 : -1000000000000000 ≤ a) (h1 : a ≤ 1000000000000000) : -1000000000000 ≤ a.tdiv 1000 ∧ a.tdiv 1000 ≤ 1000000000000 := by
 have e := Int.mul_tdiv_add_tmod a 1000
 have m := tmod_in a
 omega
theorem whj_in {g n : Nat → Int} (hg : ∀ k, -1000000 ≤ g k ∧ g k ≤ 1000000) (hn : ∀ k, -1000000000000000 ≤ n k ∧ n k ≤ 1000000000000000) (j : Nat) : -((j : Int) * 1000000000000000000) ≤ whj g n j ∧ whj g n j ≤ (j : Int) * 1000000000000000000 := by
 induction j with
 | zero => simp [whj]
 | succ j ih =>
  obtain ⟨q0, q1⟩ := td_in (hn j).1 (hn j).2
  have h := prod_in (hg j).1 (hg j).2 q0 q1
  unfold whj
  omega
theorem rsj_in {g n : Nat → Int} (hg : ∀ k, -1000000 ≤ g k ∧ g k ≤ 1000000) (j : Nat) : -((j : Int) * 999000000) ≤ rsj g n j ∧ rsj g n j ≤ (j : Int) * 999000000 := by
 induction j with
 | zero => simp [rsj]
 | succ j ih =>
  obtain ⟨q0, q1⟩ := tmod_in (n j)
  have h := prod_in (hg j).1 (hg j).2 q0 q1
  unfold rsj
  omega
def dotj (g n : Nat → Int) : Nat → Int
 | 0 => 0
 | j + 1 => dotj g n j + g j * n j
theorem dotj_eq (g n : Nat → Int) (j : Nat) : dotj g n j = 1000 * whj g n j + rsj g n j := by
 induction j with
 | zero => rfl
 | succ j ih =>
  have e := Int.mul_tdiv_add_tmod (n j) 1000
  unfold dotj whj rsj
  rw [ih]
  generalize (n j).tdiv 1000 = q at *
  generalize (n j).tmod 1000 = m at *
  rw [← e, Int.mul_add, Int.mul_add, Int.mul_left_comm]
  omega
def endJ (a b : Int) : Int := if 0 < a + b.tdiv 1000 ∧ b.tmod 1000 < 0 then a + b.tdiv 1000 - 1 else if a + b.tdiv 1000 < 0 ∧ 0 < b.tmod 1000 then a + b.tdiv 1000 + 1 else a + b.tdiv 1000
theorem endJ_eq (a b : Int) : endJ a b = (1000 * a + b).tdiv 1000 := by
 have e := Int.mul_tdiv_add_tmod b 1000
 obtain ⟨m0, m1⟩ := tmod_in b
 unfold endJ
 generalize b.tdiv 1000 = q at *
 generalize b.tmod 1000 = m at *
 obtain rfl : b = 1000 * q + m := e.symm
 have h2 := Int.mul_tdiv_add_tmod (1000 * a + (1000 * q + m)) 1000
 have s := tmod_in (1000 * a + (1000 * q + m))
 have p1 : 0 ≤ 1000 * a + (1000 * q + m) → 0 ≤ (1000 * a + (1000 * q + m)).tmod 1000 := fun h => Int.tmod_nonneg _ h
 have p2 : 1000 * a + (1000 * q + m) ≤ 0 → (1000 * a + (1000 * q + m)).tmod 1000 ≤ 0 := fun h => by
  have h3 := Int.tmod_nonneg (a := -(1000 * a + (1000 * q + m))) 1000 om9
  rw [Int.neg_tmod] at h3
  omega
 generalize (1000 * a + (1000 * q + m)).tdiv 1000 = Q at *
 generalize (1000 * a + (1000 * q + m)).tmod 1000 = M at *
 split
 ·omega
 ·split <;> omega
end
end Go.Proofs.YthggkidiidnaoaaGreat
