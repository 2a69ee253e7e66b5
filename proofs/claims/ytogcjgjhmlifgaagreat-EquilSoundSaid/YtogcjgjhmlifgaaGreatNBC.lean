import Derived.Test.YtogcjgjhmlifgaaGreatNAA
import Derived.Test.YtogcjgjhmlifgaaGreatNBA
import Derived.Test.YtogcjgjhmlifgaaGreatNBB
import Derived.Test.YtogcjgjhmlifgaaGreatRows
import Derived.KernelRfl
import Derived.Laws.StructEq
namespace Go.Proofs.YtogcjgjhmlifgaaGreat
set_option linter.unusedVariables false
set_option linter.unusedSimpArgs false
section
open Go.RowKit
theorem box_at {M : MachD} {t : Int} {xs : List SpanD} {k : Nat} (h : FitX M t xs) (hk : k < xs.length) : 0 ≤ (spA xs k).lo ∧ (spA xs k).lo ≤ (spA xs k).hi ∧ (spA xs k).hi ≤ t := h.each _ (spA_mem hk)
section
variable {P : Program} {e0 : Cfg} {U : Snaps} {l : Slots} {L : Boxes} {ops : Array Oper} {Q : Exit → Act → World → Prop} {rest : List Oper} {d : Nat} {v : Value}
variable {ty : TypeId} {pos : String} {af : Array Edge} {g : Option (Nat × Bool)} {dd : Option Nat}
end
def hdP (xs : List SpanD) (js : List Int) (n : Nat) : Prop := ∀ k, k < n → wthn (iA js k) (spA xs k).lo (spA xs k).hi = true
instance (xs : List SpanD) (js : List Int) (n : Nat) : Decidable (hdP xs js n) := Nat.decidableBallLT n (fun k _ => wthn (iA js k) (spA xs k).lo (spA xs k).hi = true)
theorem chk_yes (w : World) : Calls Tryz.prog 50 #[.bool true, .bool true] w (Ret (.int .i64 0) w) := chk5_any true true w
set_option maxRecDepth 100000 in
theorem holds5_any (X : Option Addr) (nx cx : Nat) (xs : List SpanD) (J : Option Addr) (nj cj : Nat) (js : List Int) (w : World) (hS : IsT 2 SpanD.cells w X nx xs) (hJ : IsT 1 intCells w J nj js) (hlen : nx ≤ 1000000000000000) : Calls Tryz.prog 23 #[(.slice X nx cx), (.slice J nj cj)] w (Ret (.bool (decide (nx = nj ∧ hdP xs js nx))) w) := by
  have n1 := hS.1
  have n2 := hJ.1
  refine calls_ax (vs := [(.slice X nx cx), (.slice J nj cj)]) Tryz.func23 rfl rfl ?_
  refine ac_seq (ac_region ?_)
  refine al_p (q_assign rfl) (al_end (aq_then ?_))
  refine ac_seq (ac_seq (ac_region ?_))
  refine al_p (q_move rfl) (al_p (q_lenS rfl Tryz.runUnderlying45) (al_p (q_move rfl) (al_p (q_lenS rfl Tryz.runUnderlying30) (al_p (q_neq rfl rfl) ?_))))
  refine al_end (aq_then ?_)
  refine ac_cond rfl (fun h1 => ?_) (fun h1 => ?_)
  · have hne : ¬ (nx = nj ∧ hdP xs js nx) := fun h => by have := h.1; simp at h1; omega
    refine ac_seq (ac_region ?_)
    refine al_p (q_assign rfl) (al_end (aq_then ?_))
    refine ac_ret (aq_thenR (ret1 Tryz.results23 rfl (fun w9 hs => ?_)))
    rw [decide_eq_false hne]; exact ⟨rfl, hs.below⟩
  · have hxy : nx = nj := by simp at h1; omega
    refine ac_skip (aq_then (ac_seq (ac_seq (ac_region ?_))))
    refine al_p (q_move rfl) (al_p (q_lenS rfl Tryz.runUnderlying45) (al_p (q_move rfl) (al_end (aq_then ?_))))
    refine ac_block (ac_loop (β := Nat) (fun k => k ≤ nx ∧ hdP xs js k) (fun k => [(1, (.slice J nj cj)), (4, (.bool false)), (12, (.slice X nx cx)), (13, (.int .i64 (nx : Int))), (14, (.int .i64 (k : Int)))]) (fun _ => _) (fun k => []) (fun k => nx - k) 0 ⟨by omega, fun j h => by omega⟩ ⟨rfl, rfl, rfl, rfl, rfl, trivial⟩ (fun w9 hs => hs) (fun k hF1 => ?_))
    refine ac_seq (ac_region ?_)
    refine al_p (q_lss rfl rfl) (al_end (aq_then ?_))
    refine ac_seq ?_
    refine ac_cond rfl (fun h2 => ?_) (fun h2 => ?_)
    · have hkn : k < nx := by have := of_decide_eq_true h2; omega
      obtain ⟨b11, o11, hA1, hlt1, hget1⟩ := hS.2 (by omega)
      have hx1 := spA_get (x := xs) (k := k) (by omega)
      obtain ⟨b21, o21, hA2, hlt2, hget2⟩ := hJ.2 (by omega)
      have hx2 := iA_get (l := js) (k := k) (by omega)
      refine ac_skip (aq_then (ac_seq (ac_block (ac_seq (ac_region ?_)))))
      refine al_p (q_move rfl) ?_
      refine al_p (q_indexAddrA (i := k) (o11 + k * 2 + 0) hA1 rfl rfl rfl (by omega) Tryz.runUnderlying45 Tryz.sizeOf52 rfl) (al_p (q_loadXs (SpanD.cells (spA xs k)) rfl Tryz.isAgg52 Tryz.sizeOf52 (fun w9 hs j9 v9 h9 => by rw [addr_add]; exact (hs.below.cell (p := ⟨_, _, none⟩) hlt1).trans ((hget1 k _ hx1) j9 v9 h9)) rfl) (al_new (fun b => .pointer (some ⟨b, 0, none⟩)) (r_alloc Tryz.zeroValue52 rfl) rfl rfl rfl ?_))
      intro b1
      refine al_p (q_assign rfl) (al_storeAll (i := 0) rfl rfl rfl rfl Tryz.sizeOf52 rfl rfl .k0 rfl (al_end (aq_then ?_)))
      refine ac_seq (ac_draw 9 (by kernel_rfl) (by kernel_rfl) ?_)
      refine ah_t 0 (fun w9 hs => hs) rfl rfl (by kernel_rfl) (q_move rfl) (ah_t 1 (fun w9 hs => hs) rfl rfl (by kernel_rfl) (q_move rfl) ?_)
      refine ah_t 2 (fun w9 hs => hs) rfl rfl (by kernel_rfl) (q_indexAddrA (i := k) (o21 + k * 1 + 0) hA2 rfl rfl rfl (by omega) Tryz.runUnderlying30 Tryz.sizeOf3 rfl) (ah_t 3 (fun w9 hs => hs) rfl rfl (by kernel_rfl) (q_loadX rfl Tryz.isAgg3 (fun w9 hs => (hs.below.cell (p := ⟨_, _, none⟩) hlt2).trans ((hget2 k _ hx2) 0 _ rfl))) ?_)
      refine ah_t 4 (fun w9 hs => hs) rfl rfl (by kernel_rfl) (q_fieldAddr 0 rfl Tryz.runUnderlying52 rfl Tryz.sizeOf3 (by decide) rfl) (ah_t 5 (fun w9 hs => hs) rfl rfl (by kernel_rfl) (q_load (i := 0) rfl rfl rfl Tryz.isAgg3) ?_)
      refine ah_t 6 (fun w9 hs => hs) rfl rfl (by kernel_rfl) (q_fieldAddr 1 rfl Tryz.runUnderlying52 rfl Tryz.sizeOf3 (by decide) rfl) (ah_t 7 (fun w9 hs => hs) rfl rfl (by kernel_rfl) (q_load (i := 0) rfl rfl rfl Tryz.isAgg3) (ah_one 8 rfl (by kernel_rfl) (fun hok1 hcl1 => ?_)))
      refine al_call Tryz.call46 (.cons rfl (.cons rfl (.cons rfl .nil))) rfl rfl (fun w1 hs1 => ?_)
      refine (within5_any (iA js k) (spA xs k).lo (spA xs k).hi _).mono ?_
      rintro e u1 ⟨rfl, hb_1⟩
      refine ⟨_, rfl, hb_1, ?_⟩
      clear hs1
      refine al_end (ah_back hok1 hcl1 (fun w9 hs => (hs.fewer 1 rfl)) ?_)
      refine ah_t 9 (fun w9 hs => (hs.fewer 1 rfl)) rfl rfl (by kernel_rfl) (q_not rfl) (ah_done (by kernel_rfl) ?_)
      refine aq_then ?_
      refine ac_cond rfl (fun h3 => ?_) (fun h3 => ?_)
      · have hne : ¬ (nx = nj ∧ hdP xs js nx) := fun h => by have h9 := h.2 k hkn; rw [h9] at h3; cases h3
        refine ac_seq (ac_region ?_)
        refine al_p (q_assign rfl) (al_end (aq_then ?_))
        refine ac_ret (aq_inR (aq_thenR (aq_thenR (aq_inR ?_))))
        refine aq_thenR (ret1 Tryz.results23 rfl (fun w9 hs => ?_))
        rw [decide_eq_false hne]; exact ⟨rfl, hs.below⟩
      · have hok : (wthn (iA js k) (spA xs k).lo (spA xs k).hi) = true := by simpa using h3
        refine ac_skip (aq_inN (aq_then (ac_region ?_)))
        refine al_p (q_add rfl rfl (by omega)) (al_p (q_move rfl) (al_end (aq_then ?_)))
        skip
        refine aq_round (k + 1) (by omega) ⟨by omega, fun j h1 => (Nat.lt_or_ge j k).elim (fun g => hF1.2 j g) (fun g => by (have e : j = k := by omega); rw [e]; exact hok)⟩ ⟨rfl, rfl, rfl, rfl, rfl, trivial⟩ (fun w9 hs => ((hs.fewer 1 rfl).tail 1 rfl))
    · have hke : k = nx := by have := of_decide_eq_false h2; omega
      refine ac_exit (aq_thenE (aq_thenE (aq_hit (aq_then ?_))))
      refine ac_seq (ac_region ?_)
      refine al_p (q_assign rfl) (al_end (aq_then ?_))
      refine ac_ret (ret1 Tryz.results23 rfl (fun w9 hs => ?_))
      rw [decide_eq_true (show nx = nj ∧ hdP xs js nx from ⟨hxy, by rw [← hke]; exact hF1.2⟩)]; exact ⟨rfl, hs.below⟩
end
end Go.Proofs.YtogcjgjhmlifgaaGreat
