import Derived.Test.YtogcjgjhmlifgaaGreatOAM
import Derived.Test.YtogcjgjhmlifgaaGreatOBE
import Derived.Test.YtogcjgjhmlifgaaGreatOBI
import Derived.Test.YtogcjgjhmlifgaaGreatRows
import Derived.KernelRfl
import Derived.Laws.StructEq
namespace Go.Proofs.YtogcjgjhmlifgaaGreat
set_option linter.unusedVariables false
set_option linter.unusedSimpArgs false
section
open Go.RowKit
end
section
open Go.RowKit
def land64 (x y : Int) : Int := IntKind.i64.wrap ((BitVec.ofInt 64 x &&& BitVec.ofInt 64 y).toNat : Int)
section
variable {P : Program} {e0 : Cfg} {U : Snaps} {l : Slots} {L : Boxes}
theorem q_and {xt yt : TypeId} {ox oy : Operand} {x y : Int} {ty : TypeId} {pos : String} {af : Array Edge} {g : Option (Nat × Bool)} {dd : Option Nat} (hx : E l ox = some (.int .i64 x)) (hy : E l oy = some (.int .i64 y)) : Q1 P e0 U l L ⟨dd, .binOp .and xt ox oy yt, ty, pos, af, g⟩ (.int .i64 (land64 x y)) := by
  intro a w hf hs
  simp [execOp, hf.ev hx, hf.ev hy, eqGuard, binOp, Op.intBits, land64, Bind.bind, Sem.bind, Sem.run, pure]
  rfl
end
theorem land_bd (x : Int) : 0 ≤ land64 x 16777215 ∧ land64 x 16777215 ≤ 16777215 := by
  have h : (BitVec.ofInt 64 x &&& BitVec.ofInt 64 16777215).toNat ≤ 16777215 := by
    rw [BitVec.toNat_and]
    exact Nat.le_trans Nat.and_le_right (by decide)
  unfold land64
  rw [IntKind.wrap_i64]
  omega
def pik (js : List Int) (k : Nat) : Int := if k < js.length then land64 (iA js k) 16777215 else 0
theorem pik_bd (js : List Int) (k : Nat) : 0 ≤ pik js k ∧ pik js k ≤ 16777215 := by
  unfold pik
  split
  · exact land_bd _
  · omega
def pkA (xs : List SpanD) (js : List Int) (k : Nat) : Int := (spA xs k).lo + (pik js k).tmod ((spA xs k).hi - (spA xs k).lo + 1)
theorem tmod_bd {a b : Int} (ha : 0 ≤ a) (hb : 1 ≤ b) : 0 ≤ a.tmod b ∧ a.tmod b < b := ⟨Int.tmod_nonneg _ ha, Int.tmod_lt_of_pos _ (by omega)⟩
theorem pkA_bd {xs : List SpanD} {js : List Int} {k : Nat} (h : (spA xs k).lo ≤ (spA xs k).hi) : (spA xs k).lo ≤ pkA xs js k ∧ pkA xs js k ≤ (spA xs k).hi := by
  have h1 := tmod_bd (pik_bd js k).1 (show 1 ≤ (spA xs k).hi - (spA xs k).lo + 1 by omega)
  unfold pkA; omega
def pkC (xs : List SpanD) (js : List Int) (k : Nat) : List Value := (lst k (pkA xs js)).flatMap intCells
theorem pkC_succ (xs : List SpanD) (js : List Int) (k : Nat) : pkC xs js (k + 1) = pkC xs js k ++ [.int .i64 (pkA xs js k)] := by unfold pkC; rw [lst_snoc, List.flatMap_append]; simp [intCells]
theorem eqx_bs_int_1_0_ (a0 : Value) (ha0 : a0.oneCell' = true) : ∀ w, (Instr.buildSlice 30 1 #[(0, a0)]).run Tryz.prog w = .ok (.slice (some ⟨w.heap.size, 0, none⟩) 1 1) (w.alloc (.cells [a0].toArray 3)) := by
  have ea0 : a0.cells = #[a0] := cells_one ha0
  intro w; (simp [Instr.buildSlice, Instr.fill, cells_agg, newRow, Tryz.runUnderlying30, Tryz.zeroValue3, Tryz.sizeOf3, ea0] <;> (rw [(by kernel_rfl : Array.range 1 = #[0])]; simp [Value.cells]))
set_option maxRecDepth 100000 in
theorem picked_any (X : Option Addr) (nx cx : Nat) (xs : List SpanD) (J : Option Addr) (nj cj : Nat) (js : List Int) (w : World) (hS : IsT 2 SpanD.cells w X nx xs) (hJ : IsT 1 intCells w J nj js) (hn : nx ≤ 1000) (hb : ∀ k, k < nx → 0 ≤ (spA xs k).lo ∧ (spA xs k).lo ≤ (spA xs k).hi ∧ (spA xs k).hi ≤ 1000000) : Calls Tryz.prog 31 #[(.slice X nx cx), (.slice J nj cj)] w (fun e w' => ∃ A c, e = .returned (.slice A nx c) ∧ NewT 1 intCells w.heap.size w' A nx c (lst nx (pkA xs js)) ∧ Below w.heap.size w w') := by
  have n1 := hS.1
  have n2 := hJ.1
  refine calls_ax (vs := [(.slice X nx cx), (.slice J nj cj)]) Tryz.func31 rfl rfl ?_
  refine ac_seq (ac_region ?_)
  refine al_p (q_assign rfl) (al_end (aq_then ?_))
  refine ac_seq (ac_region ?_)
  refine al_p (q_assign rfl) (al_end (aq_then ?_))
  refine ac_seq (ac_seq (ac_region ?_))
  refine al_p (q_assign rfl) (al_end (aq_then ?_))
  refine ac_block ?_
  refine ac_loop (β := Nat × Gr) (fun p => p.1 ≤ nx ∧ gok p.2 p.1 1 (pkC xs js p.1)) (fun p => [(0, (.slice X nx cx)), (1, (.slice J nj cj)), (4, (.slice none 0 0)), (5, (.slice (gA p.2) p.1 (gC p.2))), (6, (.int .i64 (p.1 : Int)))]) (fun _ => _) (fun p => (gt p.2 (pkC xs js p.1) ++ ([]))) (fun p => nx - p.1) (0, none) ⟨Nat.zero_le _, gok.none 1⟩ ⟨rfl, rfl, rfl, rfl, rfl, trivial⟩ (fun w9 hs => (by rw [show gt none (pkC xs js 0) = [] from rfl, List.nil_append]; exact hs)) (fun p hF1 => ?_)
  obtain ⟨hpx, hgp⟩ := hF1
  refine ac_seq (ac_seq (ac_region ?_))
  refine al_p (q_move rfl) (al_p (q_move rfl) (al_p (q_lenS rfl Tryz.runUnderlying45) (al_p (q_lss rfl rfl) (al_end (aq_then ?_)))))
  refine ac_cond rfl (fun h1 => ?_) (fun h1 => ?_)
  · have hkn : p.1 < nx := by have := of_decide_eq_true h1; omega
    obtain ⟨b11, o11, hA1, hlt1, hget1⟩ := hS.2 (by omega)
    have hx1 := spA_get (x := xs) (k := p.1) (by omega)
    have hbk := hb p.1 hkn
    refine ac_skip (aq_then (ac_seq (ac_block (ac_seq (ac_region ?_)))))
    refine al_p (q_assign rfl) (al_end (aq_then ?_))
    refine ac_seq (ac_seq (ac_region ?_))
    refine al_p (q_move rfl) (al_p (q_move rfl) (al_p (q_lenS rfl Tryz.runUnderlying30) (al_p (q_lss rfl rfl) (al_end (aq_then ?_)))))
    refine ac_cond rfl (fun h2 => ?_) (fun h2 => ?_)
    · have hkj : p.1 < nj := by have := of_decide_eq_true h2; omega
      obtain ⟨b21, o21, hA2, hlt2, hget2⟩ := hJ.2 (by omega)
      have hx2 := iA_get (l := js) (k := p.1) (by omega)
      have hv : (spA xs p.1).lo + Int.tmod (land64 (iA js p.1) 16777215) ((spA xs p.1).hi - (spA xs p.1).lo + 1) = pkA xs js p.1 := by unfold pkA pik; rw [if_pos (by omega)]
      have hm := tmod_bd (b := ((spA xs p.1).hi - (spA xs p.1).lo + 1)) (show 0 ≤ (land64 (iA js p.1) 16777215) from (land_bd _).1) (by omega)
      refine ac_region (al_p (q_move rfl) (al_p (q_move rfl) ?_))
      refine al_p (q_indexAddrA (i := p.1) (o21 + p.1 * 1 + 0) hA2 rfl rfl rfl (by omega) Tryz.runUnderlying30 Tryz.sizeOf3 rfl) (al_p (q_loadX rfl Tryz.isAgg3 (fun w9 hs => (hs.below.cell (p := ⟨_, _, none⟩) hlt2).trans ((hget2 p.1 _ hx2) 0 _ rfl))) (al_p (q_and rfl rfl) (al_p (q_assign rfl) (al_end (aq_then ?_)))))
      refine ac_drawF 23 .z (by kernel_rfl) (by kernel_rfl) ?_
      refine ah_t 0 (fun w9 hs => (hs.front (.z))) rfl rfl (by kernel_rfl) (q_move rfl) (ah_t 1 (fun w9 hs => (hs.front (.z))) rfl rfl (by kernel_rfl) (q_move rfl) (ah_t 2 (fun w9 hs => (hs.front (.z))) rfl rfl (by kernel_rfl) (q_move rfl) ?_))
      refine ah_t 3 (fun w9 hs => (hs.front (.z))) rfl rfl (by kernel_rfl) (q_indexAddrA (i := p.1) (o11 + p.1 * 2 + 0) hA1 rfl rfl rfl (by omega) Tryz.runUnderlying45 Tryz.sizeOf52 rfl) ?_
      refine ah_t 4 (fun w9 hs => (hs.front (.z))) rfl rfl (by kernel_rfl) (q_fieldAddr (o11 + p.1 * 2 + 0) rfl Tryz.runUnderlying52 rfl Tryz.sizeOf3 (by decide) rfl) (ah_t 5 (fun w9 hs => (hs.front (.z))) rfl rfl (by kernel_rfl) (q_loadX rfl Tryz.isAgg3 (fun w9 hs => (hs.below.cell (p := ⟨_, _, none⟩) hlt1).trans ((hget1 p.1 _ hx1) 0 _ rfl))) (ah_t 6 (fun w9 hs => (hs.front (.z))) rfl rfl (by kernel_rfl) (q_move rfl) (ah_t 7 (fun w9 hs => (hs.front (.z))) rfl rfl (by kernel_rfl) (q_move rfl) (ah_t 8 (fun w9 hs => (hs.front (.z))) rfl rfl (by kernel_rfl) (q_move rfl) ?_))))
      refine ah_t 9 (fun w9 hs => (hs.front (.z))) rfl rfl (by kernel_rfl) (q_indexAddrA (i := p.1) (o11 + p.1 * 2 + 0) hA1 rfl rfl rfl (by omega) Tryz.runUnderlying45 Tryz.sizeOf52 rfl) ?_
      refine ah_t 10 (fun w9 hs => (hs.front (.z))) rfl rfl (by kernel_rfl) (q_fieldAddr (o11 + p.1 * 2 + 1) rfl Tryz.runUnderlying52 rfl Tryz.sizeOf3 (by decide) rfl) (ah_t 11 (fun w9 hs => (hs.front (.z))) rfl rfl (by kernel_rfl) (q_loadX rfl Tryz.isAgg3 (fun w9 hs => (hs.below.cell (p := ⟨_, _, none⟩) hlt1).trans ((hget1 p.1 _ hx1) 1 _ rfl))) (ah_t 12 (fun w9 hs => (hs.front (.z))) rfl rfl (by kernel_rfl) (q_move rfl) (ah_t 13 (fun w9 hs => (hs.front (.z))) rfl rfl (by kernel_rfl) (q_move rfl) ?_)))
      refine ah_t 14 (fun w9 hs => (hs.front (.z))) rfl rfl (by kernel_rfl) (q_indexAddrA (i := p.1) (o11 + p.1 * 2 + 0) hA1 rfl rfl rfl (by omega) Tryz.runUnderlying45 Tryz.sizeOf52 rfl) ?_
      refine ah_t 15 (fun w9 hs => (hs.front (.z))) rfl rfl (by kernel_rfl) (q_fieldAddr (o11 + p.1 * 2 + 0) rfl Tryz.runUnderlying52 rfl Tryz.sizeOf3 (by decide) rfl) (ah_t 16 (fun w9 hs => (hs.front (.z))) rfl rfl (by kernel_rfl) (q_loadX rfl Tryz.isAgg3 (fun w9 hs => (hs.below.cell (p := ⟨_, _, none⟩) hlt1).trans ((hget1 p.1 _ hx1) 0 _ rfl))) ?_)
      refine ah_t 17 (fun w9 hs => (hs.front (.z))) rfl rfl (by kernel_rfl) (q_sub rfl rfl (by omega)) ?_
      refine ah_t 18 (fun w9 hs => (hs.front (.z))) rfl rfl (by kernel_rfl) (q_add rfl rfl (by omega)) ?_
      refine ah_t 19 (fun w9 hs => (hs.front (.z))) rfl rfl (by kernel_rfl) (q_rem rfl rfl (by omega)) ?_
      refine ah_t 20 (fun w9 hs => (hs.front (.z))) rfl rfl (by kernel_rfl) (q_add rfl rfl (by omega)) (ah_one 21 rfl (by kernel_rfl) (fun hok1 hcl1 => ?_))
      refine al_new (fun b => .slice (some ⟨b, 0, none⟩) 1 1) (r_buildSlice (.cons rfl .nil) (eqx_bs_int_1_0_ _ rfl)) rfl rfl rfl ?_
      intro b1
      refine al_end (ah_back hok1 hcl1 (fun w9 hs => ((hs.tail 1 rfl).front (.z))) ?_)
      refine ah_one 22 rfl (by kernel_rfl) (fun hok2 hcl2 => ?_)
      refine al_grow (z := 1) (bytes := 8) (zv := (.int .i64 0)) (o := p.2) (cs := (pkC xs js p.1)) (vs := [.int .i64 ((spA xs p.1).lo + Int.tmod (land64 (iA js p.1) 16777215) ((spA xs p.1).hi - (spA xs p.1).lo + 1))]) rfl rfl (.s (.z)) hgp (Sor.box (j := 0) rfl rfl rfl) Tryz.underlying30 (by kernel_rfl) rfl (by omega) (by decide) rfl rfl (fun o_1 g_1 => ?_)
      refine ⟨_, (.s (.z)), ?_⟩
      refine al_end (ah_back hok2 hcl2 (fun w9 hs => ((hs.tail 1 rfl).front (.z))) ?_)
      refine ah_one 23 rfl (by kernel_rfl) (fun hok3 hcl3 => ?_)
      refine al_p (q_assign rfl) (al_end (ah_last (by kernel_rfl) ?_))
      refine aq_inN (aq_then (ac_region (al_p (q_move rfl) ?_)))
      refine al_p (q_add rfl rfl (by omega)) (al_p (q_assign rfl) (al_end (aq_then ?_)))
      skip
      refine aq_round ((p.1 + 1, o_1)) (by simp only; omega) ⟨by simp only; omega, by simp only; rw [pkC_succ, ← hv]; exact g_1⟩ ⟨rfl, rfl, rfl, rfl, rfl, trivial⟩ (fun w9 hs => (by dsimp only; rw [pkC_succ, ← hv]; exact (hs.tail 1 rfl)))
    · have hkj : ¬ p.1 < nj := by have := of_decide_eq_false h2; omega
      have hv : (spA xs p.1).lo + Int.tmod 0 ((spA xs p.1).hi - (spA xs p.1).lo + 1) = pkA xs js p.1 := by unfold pkA pik; rw [if_neg (by omega)]
      have hm := tmod_bd (b := ((spA xs p.1).hi - (spA xs p.1).lo + 1)) (show 0 ≤ (0 : Int) from by omega) (by omega)
      refine ac_skip (aq_then (ac_drawF 23 .z (by kernel_rfl) (by kernel_rfl) ?_))
      refine ah_t 0 (fun w9 hs => (hs.front (.z))) rfl rfl (by kernel_rfl) (q_move rfl) (ah_t 1 (fun w9 hs => (hs.front (.z))) rfl rfl (by kernel_rfl) (q_move rfl) (ah_t 2 (fun w9 hs => (hs.front (.z))) rfl rfl (by kernel_rfl) (q_move rfl) ?_))
      refine ah_t 3 (fun w9 hs => (hs.front (.z))) rfl rfl (by kernel_rfl) (q_indexAddrA (i := p.1) (o11 + p.1 * 2 + 0) hA1 rfl rfl rfl (by omega) Tryz.runUnderlying45 Tryz.sizeOf52 rfl) ?_
      refine ah_t 4 (fun w9 hs => (hs.front (.z))) rfl rfl (by kernel_rfl) (q_fieldAddr (o11 + p.1 * 2 + 0) rfl Tryz.runUnderlying52 rfl Tryz.sizeOf3 (by decide) rfl) (ah_t 5 (fun w9 hs => (hs.front (.z))) rfl rfl (by kernel_rfl) (q_loadX rfl Tryz.isAgg3 (fun w9 hs => (hs.below.cell (p := ⟨_, _, none⟩) hlt1).trans ((hget1 p.1 _ hx1) 0 _ rfl))) (ah_t 6 (fun w9 hs => (hs.front (.z))) rfl rfl (by kernel_rfl) (q_move rfl) (ah_t 7 (fun w9 hs => (hs.front (.z))) rfl rfl (by kernel_rfl) (q_move rfl) (ah_t 8 (fun w9 hs => (hs.front (.z))) rfl rfl (by kernel_rfl) (q_move rfl) ?_))))
      refine ah_t 9 (fun w9 hs => (hs.front (.z))) rfl rfl (by kernel_rfl) (q_indexAddrA (i := p.1) (o11 + p.1 * 2 + 0) hA1 rfl rfl rfl (by omega) Tryz.runUnderlying45 Tryz.sizeOf52 rfl) ?_
      refine ah_t 10 (fun w9 hs => (hs.front (.z))) rfl rfl (by kernel_rfl) (q_fieldAddr (o11 + p.1 * 2 + 1) rfl Tryz.runUnderlying52 rfl Tryz.sizeOf3 (by decide) rfl) (ah_t 11 (fun w9 hs => (hs.front (.z))) rfl rfl (by kernel_rfl) (q_loadX rfl Tryz.isAgg3 (fun w9 hs => (hs.below.cell (p := ⟨_, _, none⟩) hlt1).trans ((hget1 p.1 _ hx1) 1 _ rfl))) (ah_t 12 (fun w9 hs => (hs.front (.z))) rfl rfl (by kernel_rfl) (q_move rfl) (ah_t 13 (fun w9 hs => (hs.front (.z))) rfl rfl (by kernel_rfl) (q_move rfl) ?_)))
      refine ah_t 14 (fun w9 hs => (hs.front (.z))) rfl rfl (by kernel_rfl) (q_indexAddrA (i := p.1) (o11 + p.1 * 2 + 0) hA1 rfl rfl rfl (by omega) Tryz.runUnderlying45 Tryz.sizeOf52 rfl) ?_
      refine ah_t 15 (fun w9 hs => (hs.front (.z))) rfl rfl (by kernel_rfl) (q_fieldAddr (o11 + p.1 * 2 + 0) rfl Tryz.runUnderlying52 rfl Tryz.sizeOf3 (by decide) rfl) (ah_t 16 (fun w9 hs => (hs.front (.z))) rfl rfl (by kernel_rfl) (q_loadX rfl Tryz.isAgg3 (fun w9 hs => (hs.below.cell (p := ⟨_, _, none⟩) hlt1).trans ((hget1 p.1 _ hx1) 0 _ rfl))) ?_)
      refine ah_t 17 (fun w9 hs => (hs.front (.z))) rfl rfl (by kernel_rfl) (q_sub rfl rfl (by omega)) ?_
      refine ah_t 18 (fun w9 hs => (hs.front (.z))) rfl rfl (by kernel_rfl) (q_add rfl rfl (by omega)) ?_
      refine ah_t 19 (fun w9 hs => (hs.front (.z))) rfl rfl (by kernel_rfl) (q_rem rfl rfl (by omega)) ?_
      refine ah_t 20 (fun w9 hs => (hs.front (.z))) rfl rfl (by kernel_rfl) (q_add rfl rfl (by omega)) (ah_one 21 rfl (by kernel_rfl) (fun hok4 hcl4 => ?_))
      refine al_new (fun b => .slice (some ⟨b, 0, none⟩) 1 1) (r_buildSlice (.cons rfl .nil) (eqx_bs_int_1_0_ _ rfl)) rfl rfl rfl ?_
      intro b2
      refine al_end (ah_back hok4 hcl4 (fun w9 hs => ((hs.tail 1 rfl).front (.z))) ?_)
      refine ah_one 22 rfl (by kernel_rfl) (fun hok5 hcl5 => ?_)
      refine al_grow (z := 1) (bytes := 8) (zv := (.int .i64 0)) (o := p.2) (cs := (pkC xs js p.1)) (vs := [.int .i64 ((spA xs p.1).lo + Int.tmod 0 ((spA xs p.1).hi - (spA xs p.1).lo + 1))]) rfl rfl (.s (.z)) hgp (Sor.box (j := 0) rfl rfl rfl) Tryz.underlying30 (by kernel_rfl) rfl (by omega) (by decide) rfl rfl (fun o_2 g_2 => ?_)
      refine ⟨_, (.s (.z)), ?_⟩
      refine al_end (ah_back hok5 hcl5 (fun w9 hs => ((hs.tail 1 rfl).front (.z))) ?_)
      refine ah_one 23 rfl (by kernel_rfl) (fun hok6 hcl6 => ?_)
      refine al_p (q_assign rfl) (al_end (ah_last (by kernel_rfl) ?_))
      refine aq_inN (aq_then (aq_keepL [0, 1, 4, 5, 6, 7, 8, 9, 10, 11, 14, 15, 16, 17, 23, 24, 25, 26, 27, 28, 29, 30, 31, 32, 33, 34, 35, 36, 37, 38, 39, 40, 41, 42, 43, 44, 45] (.cons rfl (.cons rfl (.cons rfl (.cons rfl (.cons rfl (.cons rfl (.cons rfl (.cons rfl (.cons rfl (.cons rfl (.cons rfl (.cons rfl (.cons rfl (.cons rfl (.cons rfl (.cons rfl (.cons rfl (.cons rfl (.cons rfl (.cons rfl (.cons rfl (.cons rfl (.cons rfl (.cons rfl (.cons rfl (.cons rfl (.cons rfl (.cons rfl (.cons rfl (.cons rfl (.cons rfl (.cons rfl (.cons rfl (.cons rfl (.cons rfl (.cons rfl (.cons rfl .nil))))))))))))))))))))))))))))))))))))) ?_))
      refine ac_region (al_p (q_move rfl) ?_)
      refine al_p (q_add rfl rfl (by omega)) (al_p (q_assign rfl) (al_end (aq_then ?_)))
      skip
      refine aq_round ((p.1 + 1, o_2)) (by simp only; omega) ⟨by simp only; omega, by simp only; rw [pkC_succ, ← hv]; exact g_2⟩ ⟨rfl, rfl, rfl, rfl, rfl, trivial⟩ (fun w9 hs => (by dsimp only; rw [pkC_succ, ← hv]; exact (hs.tail 1 rfl)))
  · have hke : p.1 = nx := by have := of_decide_eq_false h1; omega
    refine ac_exit (aq_thenE (aq_thenE (aq_hit (aq_then ?_))))
    refine ac_seq (ac_region ?_)
    refine al_p (q_move rfl) (al_p (q_assign rfl) (al_end (aq_then ?_)))
    refine ac_ret (ret1 Tryz.results31 rfl (fun w9 hs => ?_))
    exact ⟨gA p.2, gC p.2, by rw [hke], by have h9 := hs.grown (enc := intCells) (o := p.2) (cs := pkC xs js p.1) (zs := lst p.1 (pkA xs js)) (fun _ => rfl) (fun y hy => by simp [hy]) hgp rfl (lst_length _ _); rw [hke] at h9; exact h9, hs.below⟩
def tpJ (f : Nat → Int) : Nat → Int
  | 0 => 0
  | n + 1 => topTo f n
theorem tpJ_a {f : Nat → Int} {k : Nat} (h : k = 0) : tpJ f (k + 1) = f k := by subst h; rfl
theorem tpJ_b {f : Nat → Int} {k : Nat} (h : k ≠ 0) (hb : tpJ f k < f k) : tpJ f (k + 1) = f k := by
  obtain ⟨n, rfl⟩ : ∃ n, k = n + 1 := ⟨k - 1, by omega⟩
  show max (topTo f n) (f (n + 1)) = _
  have : topTo f n < f (n + 1) := hb
  omega
theorem tpJ_c {f : Nat → Int} {k : Nat} (h : k ≠ 0) (hb : f k ≤ tpJ f k) : tpJ f (k + 1) = tpJ f k := by
  obtain ⟨n, rfl⟩ : ∃ n, k = n + 1 := ⟨k - 1, by omega⟩
  show max (topTo f n) (f (n + 1)) = topTo f n
  have : f (n + 1) ≤ topTo f n := hb
  omega
end
section
open Go.RowKit
def InX (ys xs : List SpanD) (n : Nat) : Prop := ∀ k, k < n → (spA xs k).lo ≤ (spA ys k).lo ∧ (spA ys k).hi ≤ (spA xs k).hi
theorem flS_mono {M : MachD} {C : CurD} {xs ys : List SpanD} (h : InX ys xs (cellN M)) (p : PointD) : (flS M C xs p).lo ≤ (flS M C ys p).lo ∧ (flS M C ys p).hi ≤ (flS M C xs p).hi := by
  have h1 := dotTo_le (f := fun i => wgt M p i * (spA xs i).lo) (g := fun i => wgt M p i * (spA ys i).lo) (cellN M) (fun k hk => Int.mul_le_mul_of_nonneg_left (h k hk).1 (wgt_bd M p k).1)
  have h2 := dotTo_le (f := fun i => wgt M p i * (spA ys i).hi) (g := fun i => wgt M p i * (spA xs i).hi) (cellN M) (fun k hk => Int.mul_le_mul_of_nonneg_left (h k hk).2 (wgt_bd M p k).1)
  show loT M C p xs (cellN M) ≤ loT M C p ys (cellN M) ∧ hiT M C p ys (cellN M) ≤ hiT M C p xs (cellN M)
  unfold loT hiT
  exact ⟨by omega, by omega⟩
theorem bdS_mono {M : MachD} {C : CurD} {xs ys : List SpanD} (h : InX ys xs (cellN M)) : (bdS M C xs).lo ≤ (bdS M C ys).lo ∧ (bdS M C ys).hi ≤ (bdS M C xs).hi :=
  ⟨topTo_le _ (fun k _ => (flS_mono h _).1), topTo_le _ (fun k _ => (flS_mono h _).2)⟩
theorem exA_mono {M : MachD} {C : CurD} {xs ys : List SpanD} (h : InX ys xs (cellN M)) (k : Nat) : (exA M C xs k).lo ≤ (exA M C ys k).lo ∧ (exA M C ys k).hi ≤ (exA M C xs k).hi := by
  have h1 := flS_mono (C := C) h (cellP M k)
  have h2 := bdS_mono (C := C) h
  unfold exA
  exact ⟨by dsimp only; omega, by dsimp only; omega⟩
theorem dotTo_subf (f g : Nat → Int) : ∀ n : Nat, dotTo (fun i => f i - g i) n = dotTo f n - dotTo g n
  | 0 => rfl
  | n + 1 => by simp only [dotTo]; rw [dotTo_subf f g n]; omega
theorem rest_le {f g : Nat → Int} {n k : Nat} (hk : k < n) (h : ∀ j, j < n → f j ≤ g j) : dotTo f n - f k ≤ dotTo g n - g k := by
  have h1 := dotTo_one (f := fun i => g i - f i) n k hk (fun j hj => by have := h j hj; (try dsimp only); omega)
  rw [dotTo_subf] at h1
  try dsimp only at h1
  omega
theorem quo_mono {t a b c d : Int} (ht : 0 ≤ t) (ha : 0 ≤ a) (hab : a ≤ b) (hd : 0 ≤ d) (hdc : d ≤ c) : t * a / (a + c) ≤ t * b / (b + d) := by
  have hr : 0 ≤ t * b / (b + d) := Int.ediv_nonneg (Int.mul_nonneg ht (by omega)) (by omega)
  rcases Int.lt_or_le 0 a with h0 | h0
  · rw [Int.le_ediv_iff_mul_le (by omega)]
    have hq0 : 0 ≤ t * a / (a + c) := Int.ediv_nonneg (Int.mul_nonneg ht ha) (by omega)
    have hq : t * a / (a + c) * (a + c) ≤ t * a := Int.ediv_mul_le _ (by omega)
    generalize t * a / (a + c) = q at hq hq0
    have e1 : q * (a + c) * b ≤ t * a * b := Int.mul_le_mul_of_nonneg_right hq (by omega)
    have e2 : d * a ≤ c * b := Int.mul_le_mul hdc hab ha (by omega)
    have e3 : q * (d * a) ≤ q * (c * b) := Int.mul_le_mul_of_nonneg_left e2 hq0
    have e4 : q * (b + d) * a = q * (a * b) + q * (d * a) := by rw [Int.mul_assoc, Int.add_mul, Int.mul_add, Int.mul_comm b a]
    have e5 : q * (a + c) * b = q * (a * b) + q * (c * b) := by rw [Int.mul_assoc, Int.add_mul, Int.mul_add]
    have e6 : t * a * b = t * b * a := by rw [Int.mul_assoc, Int.mul_comm a b, ← Int.mul_assoc]
    exact Int.le_of_mul_le_mul_right (by omega : q * (b + d) * a ≤ t * b * a) h0
  · have : a = 0 := by omega
    subst this
    rw [Int.mul_zero, Int.zero_ediv]; exact hr
theorem upQ_le {a m q : Int} (hm : 0 < m) (h : a ≤ q * m) : upQ a m ≤ q := by
  have h1 : a / m ≤ q := Int.ediv_le_of_le_mul hm h
  have h2 := Int.mul_ediv_add_emod a m
  unfold upQ
  split
  · rename_i hp
    apply Classical.byContradiction
    intro c
    have e : q = a / m := by omega
    rw [e, Int.mul_comm] at h
    omega
  · exact h1
theorem upQ_ge (a : Int) {m : Int} (hm : 0 < m) : a ≤ upQ a m * m := by
  have h2 := Int.mul_ediv_add_emod a m
  have h3 := Int.emod_nonneg a (show m ≠ 0 by omega)
  have h4 := Int.emod_lt_of_pos a hm
  unfold upQ
  split
  · rw [Int.add_mul, Int.one_mul, Int.mul_comm]; omega
  · rw [Int.mul_comm]; omega
theorem upQ_pos {a m : Int} (ha : 0 ≤ a) (hm : 0 ≤ m) : 0 ≤ upQ a m := by
  have := Int.ediv_nonneg ha hm
  unfold upQ; split <;> omega
theorem upQ_zero (m : Int) : upQ 0 m = 0 := by unfold upQ; simp
theorem up_mono {t a b c d : Int} (ht : 0 ≤ t) (ha : 0 ≤ a) (hab : a ≤ b) (hd : 0 ≤ d) (hdc : d ≤ c) : upQ (t * a) (a + c) ≤ upQ (t * b) (b + d) := by
  have hr : 0 ≤ upQ (t * b) (b + d) := upQ_pos (Int.mul_nonneg ht (by omega)) (by omega)
  rcases Int.lt_or_le 0 a with h0 | h0
  · refine upQ_le (by omega) ?_
    have hq := upQ_ge (t * b) (show 0 < b + d by omega)
    generalize upQ (t * b) (b + d) = q at hq hr
    have e1 : t * b * a ≤ q * (b + d) * a := Int.mul_le_mul_of_nonneg_right hq ha
    have e2 : d * a ≤ c * b := Int.mul_le_mul hdc hab ha (by omega)
    have e3 : q * (d * a) ≤ q * (c * b) := Int.mul_le_mul_of_nonneg_left e2 hr
    have e4 : q * (b + d) * a = q * (a * b) + q * (d * a) := by rw [Int.mul_assoc, Int.add_mul, Int.mul_add, Int.mul_comm b a]
    have e5 : q * (a + c) * b = q * (a * b) + q * (c * b) := by rw [Int.mul_assoc, Int.add_mul, Int.mul_add]
    have e6 : t * a * b = t * b * a := by rw [Int.mul_assoc, Int.mul_comm a b, ← Int.mul_assoc]
    exact Int.le_of_mul_le_mul_right (by omega : t * a * b ≤ q * (a + c) * b) (by omega)
  · have : a = 0 := by omega
    subst this
    rw [Int.mul_zero, upQ_zero]; exact hr
theorem imA_mono {M : MachD} {C : CurD} {t : Int} {xs ys : List SpanD} (ht : 0 ≤ t) (h : InX ys xs (cellN M)) (hf : Fit2 M C) {t1 : Int} (hX : FitX M t1 xs) (hY : FitX M t1 ys) (ht1 : t1 ≤ 1000000) {k : Nat} (hk : k < cellN M) : (imA M C t xs k).lo ≤ (imA M C t ys k).lo ∧ (imA M C t ys k).hi ≤ (imA M C t xs k).hi := by
  have m := exA_mono (C := C) h
  have bx := exA_bd hf hX ht1
  have by_ := exA_bd hf hY ht1
  have r1 := rest_le (f := fun i => (exA M C ys i).hi) (g := fun i => (exA M C xs i).hi) hk (fun j _ => (m j).2)
  have r2 := rest_le (f := fun i => (exA M C xs i).lo) (g := fun i => (exA M C ys i).lo) hk (fun j _ => (m j).1)
  have r3 := rest_le (f := fun _ => 0) (g := fun i => (exA M C ys i).hi) hk (fun j _ => by have := by_ j; (try dsimp only); omega)
  have r4 := rest_le (f := fun _ => 0) (g := fun i => (exA M C xs i).lo) hk (fun j _ => (bx j).1)
  have z : ∀ n : Nat, dotTo (fun _ => (0 : Int)) n = 0 := fun n => by
    induction n with
    | zero => rfl
    | succ n ih => simp only [dotTo]; omega
  rw [z] at r3 r4
  try dsimp only at r1 r2 r3 r4
  have q1 := quo_mono (t := t) (a := (exA M C xs k).lo) (b := (exA M C ys k).lo) (c := exHi M C xs - (exA M C xs k).hi) (d := exHi M C ys - (exA M C ys k).hi) ht (bx k).1 (m k).1 (by unfold exHi; omega) (by unfold exHi; omega)
  have q2 := up_mono (t := t) (a := (exA M C ys k).hi) (b := (exA M C xs k).hi) (c := exLo M C ys - (exA M C ys k).lo) (d := exLo M C xs - (exA M C xs k).lo) ht (by have := by_ k; omega) (m k).2 (by unfold exLo; omega) (by unfold exLo; omega)
  unfold imA
  try dsimp only
  rw [show (exA M C xs k).lo + exHi M C xs - (exA M C xs k).hi = (exA M C xs k).lo + (exHi M C xs - (exA M C xs k).hi) by omega, show (exA M C ys k).lo + exHi M C ys - (exA M C ys k).hi = (exA M C ys k).lo + (exHi M C ys - (exA M C ys k).hi) by omega, show (exA M C ys k).hi + exLo M C ys - (exA M C ys k).lo = (exA M C ys k).hi + (exLo M C ys - (exA M C ys k).lo) by omega, show (exA M C xs k).hi + exLo M C xs - (exA M C xs k).lo = (exA M C xs k).hi + (exLo M C xs - (exA M C xs k).lo) by omega]
  exact ⟨q1, q2⟩
end
end Go.Proofs.YtogcjgjhmlifgaaGreat
