import Derived.Test.YthggkidiidnaoaaGreatWAA
import Derived.Test.YthggkidiidnaoaaGreatWAC
import Derived.Test.YthggkidiidnaoaaGreatWAU
import Derived.Test.YthggkidiidnaoaaGreatWAW
import Derived.Test.YthggkidiidnaoaaGreatWAY
import Derived.Test.YthggkidiidnaoaaGreatWBB
import Derived.Test.YthggkidiidnaoaaGreatWBF
import Derived.Test.YthggkidiidnaoaaGreatRows
import Derived.KernelRfl
import Derived.Laws.StructEq
namespace Go.Proofs.YthggkidiidnaoaaGreat
set_option linter.unusedVariables false
set_option linter.unusedSimpArgs false
section
open Go.RowKit
theorem nmin_r (a b : Nat) : Nat.min a b ≤ b := Nat.min_le_right a b
theorem nmin_l (a b : Nat) : Nat.min a b ≤ a := Nat.min_le_left a b
theorem mul1_any (n : Nat) (hn : n ≤ 1000000) (w : World) : Calls Tryz.prog 137 #[.int .u64 1, .int .u64 (n : Int)] w (Ret (.tuple #[.int .u64 0, .int .u64 (n : Int)]) w) := by
 refine (mul64_nat 1 n om9 om9 w).mono ?_
 rintro e w' ⟨rfl, rfl⟩
 refine ⟨?_, Below.refl _ _⟩
 rw [Nat.one_mul, Nat.div_eq_of_lt om9, Nat.mod_eq_of_lt om9]; rfl
theorem repF_one (x : DrvR) (n : Nat) : (List.range n).flatMap (fun _ => x.cells) = (List.replicate n x).flatMap DrvR.cells := by
 induction n with
 | zero => rfl
 | succ n ih => rw [List.range_succ, List.flatMap_append, ih, List.replicate_succ', List.flatMap_append]; rfl
def zD : List Value := [.slice none 0 0, .slice none 0 0]
abbrev repC (N k : Nat) (x : DrvR) : List Value := mixF N k (fun _ => x.cells) (fun _ => zD)
theorem repC_len (N k : Nat) (x : DrvR) : (repC N k x).length = N * 2 := mixF_len (z := 2) (fun _ => rfl) (fun _ => rfl)
theorem repC_eq {N k : Nat} (h : k ≤ N) (x : DrvR) : repC N k x = (List.replicate k x).flatMap DrvR.cells ++ (List.range (N - k)).flatMap (fun _ => zD) := by
 unfold repC mixF
 have e : List.range N = List.range k ++ (List.range (N - k)).map (k + ·) := by
  conv => lhs; rw [show N = k + (N - k) by omega, List.range_add]
 rw [e, List.flatMap_append, ← repF_one]
 congr 1
 ·exact flatMap_ext fun j hj => by rw [if_pos (List.mem_range.1 hj)]
 ·rw [List.flatMap_map]
  exact flatMap_ext fun j hj => by rw [if_neg om9]
theorem rep_len (k : Nat) (x : DrvR) : ((List.replicate k x).flatMap DrvR.cells).length = k * 2 := by rw [flatMap_len (z := 2) _ (fun _ => rfl), List.length_replicate]
theorem repC_copy {N k m : Nat} (h : k + m ≤ N) (x : DrvR) : repC N (k + m) x = (repC N k x).take (k * 2) ++ (List.replicate m x).flatMap DrvR.cells ++ (repC N k x).drop (k * 2 + ((List.replicate m x).flatMap DrvR.cells).length) := by
 rw [repC_eq h, repC_eq (show k ≤ N by omega), List.take_left' (rep_len k x), rep_len m x]
 rw [← List.replicate_append_replicate, List.flatMap_append, List.append_assoc, List.append_assoc]
 congr 2
 rw [List.drop_append, rep_len, List.drop_of_length_le (by rw [rep_len]; omega), List.nil_append, show k * 2 + m * 2 - k * 2 = m * 2 by omega]
 have e : List.range (N - k) = List.range m ++ (List.range (N - (k + m))).map (m + ·) := by
  conv => lhs; rw [show N - k = m + (N - (k + m)) by omega, List.range_add]
 rw [e, List.flatMap_append, List.drop_left' (by rw [flatMap_len (z := 2) _ (fun _ => rfl), List.length_range]), List.flatMap_map]
theorem repC_get {N k : Nat} (h : k ≤ N) (x : DrvR) {m : Nat} (hm : m ≤ k) (j : Nat) (v : Value) (hv : ((List.replicate m x).flatMap DrvR.cells)[j]? = some v) : (repC N k x)[j]? = some v := by
 have hj := (List.getElem?_eq_some_iff.1 hv).1
 rw [rep_len] at hj
 rw [repC_eq h, List.getElem?_append_left (by rw [rep_len]; omega), show k = m + (k - m) by omega, ← List.replicate_append_replicate, List.flatMap_append, List.getElem?_append_left (by rw [rep_len]; omega)]
 exact hv
theorem rep_one (m : Nat) (x : DrvR) : ∀ v ∈ (List.replicate m x).flatMap DrvR.cells, v.oneCell' = true := fun v hv => by
 obtain ⟨y, hy, hv⟩ := List.mem_flatMap.1 hv
 simp only [DrvR.cells, List.mem_cons, List.not_mem_nil, or_false] at hv
 rcases hv with rfl | rfl <;> rfl
theorem zD_len (n : Nat) : ((List.range n).flatMap (fun _ => [Value.slice none 0 0, Value.slice none 0 0])).length = n * 2 := by rw [flatMap_len (z := 2) _ (fun _ => rfl), List.length_range]
theorem repC_zero (n : Nat) (x : DrvR) : repC n 0 x = (List.range n).flatMap (fun _ => zD) := mixF_zero _ _ _
theorem q_fromSx {P : Program} {e0 : Cfg} {U : Snaps} {l : Slots} {L : Boxes} {ty : TypeId} {pos : String} {af : Array Edge} {g : Option (Nat × Bool)} {dd : Option Nat} {t e b len cap lo : Nat} {ii : Int} {k : IntKind} {ox oi : Operand} (hx : E l ox = some (.slice (some ⟨b, 0, none⟩) len cap)) (hi : E l oi = some (.int k ii)) (hii : ii = (lo : Int)) (hlo : lo < len) (hcap : len ≤ cap) (hu : P.underlying t = some (.slice e)) (hz : ∀ w, (sizeOf e).run P w = .ok 2 w) :
  Q1 P e0 U l L ⟨dd, .slice t ox (some oi) none none, ty, pos, af, g⟩ (.slice (some ⟨b, 0 + lo * 2, none⟩) (len - lo) (cap - lo)) := q_fromS hx hi hii om9 hcap hu hz (by rw [if_neg om9])
set_option maxRecDepth 100000 in
theorem repeat1_any (A : Option Addr) (c0 n : Nat) (x0 : DrvR) (w : World) (hI : IsT 2 DrvR.cells w A 1 [x0]) (hn : n ≤ 1000000) : Calls Tryz.prog 50 #[(.slice A 1 c0), (.int .i64 (n : Int))] w (fun e w' => ∃ b, e = .returned (.slice (some ⟨b, 0, none⟩) n n) ∧ NewT 2 DrvR.cells w.heap.size w' (some ⟨b, 0, none⟩) n n (List.replicate n x0) ∧ b < w'.heap.size ∧ Below w.heap.size w w') := by
 refine calls_ax (vs := [(.slice A 1 c0), (.int .i64 (n : Int))]) Tryz.func50 rfl rfl ?_
 refine ac_seq (ac_region ?_)
 refine al_p (q_assign rfl) (al_end (aq_then ?_))
 refine ac_seq (ac_seq (ac_region ?_))
 refine al_p (q_move rfl) (al_p (q_lss rfl rfl) (al_end (aq_then ?_)))
 refine ac_cond rfl (fun h1 => ?_) (fun h1 => ?_)
 ·exfalso; have := of_decide_eq_true h1; omega
 ·skip
  refine ac_skip (aq_then (ac_seq (ac_region ?_)))
  refine al_p (q_move rfl) (al_p (q_lenS rfl Tryz.runUnderlying102) ?_)
  refine al_p (q_convI rfl Tryz.underlying3 Tryz.underlying162 (by go_arith)) (al_p (q_move rfl) ?_)
  refine al_p (q_convI rfl Tryz.underlying3 Tryz.underlying162 (by go_arith)) (al_inl Tryz.call93 (.cons rfl (.cons rfl .nil)) rfl rfl Tryz.func93 rfl rfl ?_)
  refine ac_seq (ac_region ?_)
  refine al_p (q_assign rfl) (al_p (q_assign rfl) (al_end (aq_then ?_)))
  refine ac_seq (ac_condF rfl (ac_skip (aq_then (ac_seq (ac_region ?_)))))
  refine al_p (q_move rfl) (al_p (q_move rfl) (al_call Tryz.call137 (.cons rfl (.cons rfl .nil)) rfl rfl (fun w1 hs1 => ?_)))
  refine (mul1_any n hn _).mono ?_
  rintro e u1 ⟨rfl, hb_1⟩
  refine ⟨_, rfl, hb_1, ?_⟩
  clear hs1
  refine al_p (q_move rfl) (al_p (q_extract rfl rfl) (al_p (q_extract rfl rfl) (al_p (q_assign rfl) (al_p (q_assign rfl) ?_))))
  refine al_end (aq_then ?_)
  refine ac_seq (ac_region ?_)
  refine al_p (q_move rfl) (al_p (q_move rfl) (al_p (q_assign rfl) (al_p (q_assign rfl) (al_end (aq_then ?_)))))
  refine ac_ret (retI Tryz.results93 (.tmp rfl (.tmp rfl .nil)) .two ?_)
  refine al_p (q_move rfl) (al_p (q_extract rfl rfl) (al_p (q_extract rfl rfl) (al_p (q_assign rfl) (al_p (q_assign rfl) ?_))))
  refine al_end (aq_then ?_)
  refine ac_seq (ac_seq (ac_region ?_))
  refine al_p (q_move rfl) ?_
  refine al_p (q_same (v' := .bool false) (q_gtr rfl rfl) (by simp)) (al_p (q_move rfl) (al_p (q_move rfl) (al_p (q_gtr rfl rfl) (al_p (q_pickF rfl rfl) ?_))))
  refine al_end (aq_then ?_)
  refine ac_cond rfl (fun h2 => ?_) (fun h2 => ?_)
  ·exfalso; have := of_decide_eq_true h2; simp at this; omega
  ·obtain ⟨b11, o11, rfl, hlt1, hget1⟩ := hI.2 om9
   have hsrc1 : ∀ (j : Nat) (v : Value), ((List.replicate (Nat.min 1 n) x0).flatMap DrvR.cells)[j]? = some v → w.cell? ⟨b11, o11 + j, none⟩ = some v := fun j v hv => by
    have hone : ∀ (i : Nat) (u : Value), x0.cells[i]? = some u → w.cell? ⟨b11, o11 + i, none⟩ = some u := fun i u hu => by have := hget1 0 x0 rfl i u hu; simpa using this
    rcases Nat.eq_zero_or_pos n with h | h
    ·subst h; simp at hv
    ·rw [show Nat.min 1 n = 1 from Nat.min_eq_left h] at hv; exact hone j v (by simpa using hv)
   refine ac_skip (aq_then (ac_seq (ac_region ?_)))
   refine al_p (q_move rfl) ?_
   refine al_p (q_convI rfl Tryz.underlying162 Tryz.underlying3 (by go_arith)) ?_
   refine al_makeAgg (n := n) (bytes := 48) (zv := (.agg #[.slice none 0 0, .slice none 0 0])) [(.slice none 0 0), (.slice none 0 0)] rfl rfl rfl Tryz.underlying102 kr9 rfl rfl rfl om9 de9 rfl rfl ?_
   intro b1
   refine al_p (q_assign rfl) (al_end (aq_then ?_))
   refine ac_seq (ac_region ?_)
   refine al_p (q_move rfl) (al_p (q_move rfl) ?_)
   refine al_copyB (od := 0) (m := (Nat.min 1 n)) (vs := ((List.replicate (Nat.min 1 n) x0).flatMap DrvR.cells)) (cs' := (repC n (0 + Nat.min 1 n) x0)) rfl rfl rfl rfl (rep_len _ _) (by rw [zD_len]; have := nmin_r 1 n; omega) (rep_one _ _) (fun w9 hs j v hv => by rw [addr_add]; exact (hs.below.cell (p := ⟨_, _, none⟩) hlt1).trans (hsrc1 j v hv)) Tryz.underlying102 kr9 (by have h := repC_copy (N := n) (k := 0) (m := Nat.min 1 n) (by have := nmin_r 1 n; omega) x0; rw [repC_zero, Nat.zero_mul] at h; exact h) .k0 rfl rfl ?_
   refine al_p (q_assign rfl) (al_end (aq_then ?_))
   refine ac_seq (ac_block ?_)
   refine ac_loop (β := Nat) (fun x => x ≤ n ∧ (0 < n → 0 < x)) (fun x => [(4, (.slice none 0 0)), (7, (.slice (some ⟨b1, 0, none⟩) (n) (n))), (8, (.int .i64 (x : Int)))]) (fun _ => _) (fun x => [(b1, .cells (repC n x x0))]) (fun x => n - x) (Nat.min 1 n) ⟨nmin_r 1 n, fun h => by have : Nat.min 1 n = 1 := Nat.min_eq_left h; omega⟩ ⟨rfl, rfl, rfl, trivial⟩ (fun w9 hs => (by rw [Nat.zero_add] at hs; exact hs)) (fun x hF1 => ?_)
   obtain ⟨hxn, hx0⟩ := hF1
   refine ac_seq (ac_seq (ac_region ?_))
   refine al_p (q_move rfl) (al_p (q_move rfl) (al_p (q_lenS rfl Tryz.runUnderlying102) (al_p (q_lss rfl rfl) (al_end (aq_then ?_)))))
   refine ac_cond rfl (fun h3 => ?_) (fun h3 => ?_)
   ·have hxl : x < n := by have := of_decide_eq_true h3; omega
    have hxp := hx0 om9
    have hmn : 1 ≤ Nat.min x (n - x) := Nat.le_min.2 ⟨hxp, by omega⟩
    have hmr := nmin_r x (n - x)
    refine ac_skip (aq_then (ac_block (ac_drawK 1 9 rfl kr9 kr9 ?_)))
    refine ah_t 0 (fun w9 hs => (hs.tail 1 rfl)) rfl rfl kr9 (q_move rfl) (ah_t 1 (fun w9 hs => (hs.tail 1 rfl)) rfl rfl kr9 (q_move rfl) (ah_t 2 (fun w9 hs => (hs.tail 1 rfl)) rfl rfl kr9 (q_move rfl) ?_))
    refine ah_t 3 (fun w9 hs => (hs.tail 1 rfl)) rfl rfl kr9 (q_fromSx (lo := x) rfl rfl rfl om9 om9 Tryz.underlying102 Tryz.sizeOf79) (ah_t 4 (fun w9 hs => (hs.tail 1 rfl)) rfl rfl kr9 (q_move rfl) (ah_t 5 (fun w9 hs => (hs.tail 1 rfl)) rfl rfl kr9 (q_move rfl) ?_))
    refine ah_t 6 (fun w9 hs => (hs.tail 1 rfl)) rfl rfl kr9 (q_upto (hi := x) rfl rfl rfl om9 Tryz.underlying102 Tryz.sizeOf79) (ah_one 7 rfl kr9 (fun hok1 hcl1 => ?_))
    refine al_copyB (od := (0 + x * 2)) (m := (Nat.min x (n - x))) (vs := ((List.replicate (Nat.min x (n - x)) x0).flatMap DrvR.cells)) (cs' := (repC n (x + Nat.min x (n - x)) x0)) rfl rfl rfl rfl (rep_len _ _) (by rw [repC_len]; have := nmin_r x (n - x); omega) (rep_one _ _) (fun w9 hs j v hv => by rw [addr_add, Nat.zero_add]; exact hs.cell (i := 0) rfl (repC_get hxn x0 (nmin_l _ _) j v hv)) Tryz.underlying102 kr9 (by rw [Nat.zero_add]; exact repC_copy (by have := nmin_r x (n - x); omega) x0) .k0 rfl rfl ?_
    refine al_end (ah_back hok1 hcl1 (fun w9 hs => (hs.tail 1 rfl)) ?_)
    refine ah_t 8 (fun w9 hs => (hs.tail 1 rfl)) rfl rfl kr9 (q_add rfl rfl om9) (ah_one 9 rfl kr9 (fun hok2 hcl2 => ?_))
    refine al_p (q_assign rfl) (al_end (ah_last kr9 ?_))
    refine aq_inN (aq_then ?_)
    skip
    refine aq_round (x + Nat.min x (n - x)) om9 ⟨by omega, fun _ => by omega⟩ ⟨rfl, rfl, rfl, trivial⟩ (fun w9 hs => hs)
   ·have hxe : x = n := by have := of_decide_eq_false h3; omega
    subst hxe
    refine ac_exit (aq_thenE (aq_thenE (aq_hit (aq_then ?_))))
    refine ac_seq (ac_region ?_)
    refine al_p (q_move rfl) (al_p (q_assign rfl) (al_end (aq_then ?_)))
    refine ac_ret (ret1 Tryz.results50 rfl (fun w9 hs => ?_))
    exact ⟨b1, rfl, ⟨isT_box0 (n := 2) (enc := DrvR.cells) (fun _ => rfl) (hs.at 0 rfl) (by rw [repC_eq (Nat.le_refl _)]; simp) (by simp), hs.new 0 rfl, Nat.le_refl _, by omega⟩, (hs.at 0 rfl).lt, hs.below⟩
end
section
open Go.RowKit
theorem Same_keep {α : Type} {z n : Nat} {enc : α → List Value} {w W : World} {A : Option Addr} {zs : List α} (h : IsT z enc w A n zs) (hs : w.heap.size ≤ W.heap.size) (hk : ∀ b, b < w.heap.size → W.heap[b]? = w.heap[b]?) : IsT z enc W A n zs :=
 h.keep hs fun b o e h0 => by
  obtain ⟨b', o', e', h1, h2⟩ := h.2 h0
  rw [e] at e'; cases e'
  exact hk b h1
theorem IsM.keep0 {w W : World} {R : MachR} {M : MachD} (h : IsM w R M) (hs : w.heap.size ≤ W.heap.size) (hk : ∀ b, b < w.heap.size → W.heap[b]? = w.heap[b]?) : IsM W R M :=
 ⟨Same_keep h.coils hs hk, Same_keep h.shells hs hk, Same_keep h.limits hs hk, Same_keep h.sensors hs hk, h.la, h.lb, h.lc, h.ld, h.ca, h.cb, h.cc, h.cd, h.ka, h.kb, h.kc, h.kd⟩
theorem IsS.keep0 {w W : World} {R : StR} {S : StD} (h : IsS w R S) (hs : w.heap.size ≤ W.heap.size) (hk : ∀ b, b < w.heap.size → W.heap[b]? = w.heap[b]?) : IsS W R S :=
 ⟨⟨Same_keep h.cur.coils hs hk, Same_keep h.cur.shells hs hk, Same_keep h.cur.plasma hs hk, h.cur.la, h.cur.lb, h.cur.lc, h.cur.ca, h.cur.cb, h.cur.cc, h.cur.ka, h.cur.kb, h.cur.kc⟩, Same_keep h.heat hs hk, Same_keep h.trip hs hk, h.lh, h.lt, h.ch, h.ct, h.kh, h.kt⟩
theorem Sta.newT_kp {α : Type} {z n c : Nat} {enc : α → List Value} {E : Cfg} {U : Snaps} {L : Boxes} {v W u : World} {lo i bl : Nat} {cs : Cont} {A : Option Addr} {zs : List α} (h : Sta E U L v) (hu : (lo, u) ∈ U) (hN : NewT z enc lo u A n c zs) (hi : L[i]? = some (bl, cs)) (hk : KP [bl] v W) : IsT z enc W A n zs :=
 (h.newT hu hN).keep hk.size fun b o e h0 => by
  obtain ⟨b', o', e', h1, h2⟩ := hN.isT.2 h0
  rw [e] at e'; cases e'
  obtain ⟨f0, f1, f2, f3, f5, f4⟩ := h.snap lo u hu
  refine hk.block b (Nat.lt_of_lt_of_le h1 f2) (fun hm => ?_)
  have hb := List.mem_singleton.1 hm
  have := f4 i bl cs hi
  have := hN.new b o e
  omega
theorem kp_old {v W w : World} {bl : Nat} (hb : Below w.heap.size w v) (hk : KP [bl] v W) (hl : w.heap.size ≤ bl) : w.heap.size ≤ W.heap.size ∧ ∀ b, b < w.heap.size → W.heap[b]? = w.heap[b]? :=
 ⟨Nat.le_trans hb.size hk.size, fun b h => (hk.block b (Nat.lt_of_lt_of_le h hb.size) (fun hm => by have := List.mem_singleton.1 hm; omega)).trans (hb.block b h)⟩
theorem box_kp {v W : World} {b bl : Nat} {cs : List Value} (h : BoxAt v b (.cells cs)) (hk : KP [bl] v W) (hn : b ≠ bl) : ∀ (j : Nat) (u : Value), cs[j]? = some u → W.cell? ⟨b, 0 + j, none⟩ = some u := fun j u hu => by
 rw [Nat.zero_add]
 exact (cell_blk (hk.block b h.lt (fun hm => hn (List.mem_singleton.1 hm)))).trans (h.cell _ rfl j u hu).1
theorem steps_tick (M : MachD) (S : StD) (ds : Nat → List Int × List Int) : ∀ k : Nat, (stepsD M S ds k).tick = S.tick + (k : Int)
 | 0 => by simp [stepsD]
 | k + 1 => by
  have h := steps_tick M S ds k
  simp only [stepsD, stepD]
  rw [h]; omega
theorem steps_fit {M : MachD} {S : StD} {ds : Nat → List Int × List Int} (hS : FitS M S) : ∀ k : Nat, S.tick + (k : Int) ≤ 1000000000 → (∀ j, j < k → FitD M (ds j)) → FitS M (stepsD M S ds k)
 | 0, _, _ => hS
 | k + 1, ht, hd => step_fit (steps_fit hS k om9 (fun j hj => hd j om9)) (by rw [steps_tick]; omega) (hd k om9).pl
set_option maxRecDepth 100000 in
theorem values_any (A : Option Addr) (n c : Nat) (w : World) : Calls Tryz.prog 49 #[(.slice A n c)] w (fun e w' => ∃ bv, e = .returned (.func (.func 92) #[] #[.pointer (some ⟨bv, 0, none⟩)]) ∧ Own w [(bv, .cells [.slice A n c])] w') := by
 refine calls_ax (vs := [(.slice A n c)]) Tryz.func49 rfl rfl ?_
 refine ac_seq (ac_region ?_)
 refine al_nb (r_box rfl rfl) ?_
 intro b1
 refine al_p (q_assign rfl) (al_end (aq_then ?_))
 refine ac_seq (ac_region ?_)
 refine al_p (q_makeFunc _ _ .nil (.cons rfl .nil)) (al_p (q_assign rfl) (al_end (aq_then ?_)))
 refine ac_ret (ret1 Tryz.results49 rfl (fun w9 hs => ?_))
 exact ⟨b1, rfl, hs.defer 0⟩
set_option maxRecDepth 100000 in
theorem states_any (R : MachR) (M : MachD) (Lk : Option Addr) (cl : Nat) (RS : StR) (n : Int) (k : Nat) (p : Value) (w : World) : Calls Tryz.prog 52 #[(circV R M Lk cl), (RS.v n), (.func (.func k) #[] #[p])] w (fun e w' => ∃ bs bd bc, e = .returned (.func (.func 97) #[] #[.pointer (some ⟨bs, 0, none⟩), .pointer (some ⟨bd, 0, none⟩), .pointer (some ⟨bc, 0, none⟩)]) ∧ Own w [(bd, .cells [.func (.func k) #[] #[p]]), (bs, .cells (stC RS n)), (bc, .cells (circC R M Lk cl))] w') := by
 refine calls_ax (vs := [(circV R M Lk cl), (RS.v n), (.func (.func k) #[] #[p])]) Tryz.func52 rfl rfl ?_
 refine ac_seq (ac_region ?_)
 refine al_nb (r_box rfl rfl) ?_
 intro b1
 refine al_nb (r_box rfl rfl) ?_
 intro b2
 refine al_nb (r_box rfl rfl) ?_
 intro b3
 refine al_p (q_assign rfl) (al_end (aq_then ?_))
 refine ac_seq (ac_region ?_)
 refine al_p (q_makeFunc _ _ .nil (.cons rfl (.cons rfl (.cons rfl .nil)))) (al_p (q_assign rfl) (al_end (aq_then ?_)))
 refine ac_ret (ret1 Tryz.results52 rfl (fun w9 hs => ?_))
 exact ⟨b2, b3, b1, rfl, hs.defer 0⟩
theorem Sta.isS {E : Cfg} {U : Snaps} {L : Boxes} {w u : World} {lo : Nat} {x : StR} {S : StD} (h : Sta E U L w) (hu : (lo, u) ∈ U) (hS : IsS u x S) (hA : x.All (fun b => lo ≤ b)) : IsS w x S :=
 ⟨⟨h.isT hu hS.cur.coils (fun b o e => Or.inl (hA.a b o e)), h.isT hu hS.cur.shells (fun b o e => Or.inl (hA.b b o e)), h.isT hu hS.cur.plasma (fun b o e => Or.inl (hA.c b o e)), hS.cur.la, hS.cur.lb, hS.cur.lc, hS.cur.ca, hS.cur.cb, hS.cur.cc, hS.cur.ka, hS.cur.kb, hS.cur.kc⟩, h.isT hu hS.heat (fun b o e => Or.inl (hA.h b o e)), h.isT hu hS.trip (fun b o e => Or.inl (hA.t b o e)), hS.lh, hS.lt, hS.ch, hS.ct, hS.kh, hS.kt⟩
theorem below_chg {D : Nat} {w w9 w8 : World} (h : Below w.heap.size w w9) (hc : Chg [D] w9 w8) (hD : w.heap.size ≤ D) : Below w.heap.size w w8 :=
 ⟨hc.os.trans h.os, hc.tape.trans h.tape, hc.output.trans h.output, Nat.le_trans h.size hc.size, fun k hk => by
  rcases Nat.lt_or_ge k w9.heap.size with g | g
  ·exact (hc.block k g (fun e => by have := List.mem_singleton.1 e; omega)).trans (h.block k hk)
  ·have := h.size; omega⟩
theorem kil_bs_apiDrive_1_0_ (c0_0 c0_1 : Value) : ∀ w, (Instr.buildSlice 102 1 #[(0, .agg #[c0_0, c0_1])]).run Tryz.prog w = .ok (.slice (some ⟨w.heap.size, 0, none⟩) 1 1) (w.alloc (.cells [c0_0, c0_1].toArray 79)) := by
 intro w; (simp [Instr.buildSlice, Instr.fill, cells_agg, newRow, Tryz.runUnderlying102, Tryz.zeroValue79, Tryz.sizeOf79] <;> (rw [(by kernel_rfl : Array.range 2 = #[0, 1])]; simp [Value.cells]))
set_option maxRecDepth 100000 in
set_option maxHeartbeats 1000000 in
theorem repeat_ok (R : MachR) (M : MachD) (RS : StR) (S : StD) (A1 A2 : Option Addr) (l1 c1 l2 c2 : Nat) (ch pl : List Int) (n : Nat) (w : World) (hM : IsM w R M) (hS : IsS w RS S) (hF : FitS M S) (i1 : IsT 1 intCells w A1 l1 ch) (i2 : IsT 1 intCells w A2 l2 pl) (hD : FitD M (ch, pl)) (hn0 : n ≤ 10000) (ht : S.tick + (n : Int) ≤ 1000000000) : Calls Tryz.prog 25 #[.agg (machCells R M), RS.v S.tick, .agg #[.slice A1 l1 c1, .slice A2 l2 c2], .int .i64 (n : Int)] w (fun e w' => ∃ x : StR, e = .returned (.tuple #[x.v (stepsD M S (fun _ : Nat => (ch, pl)) n).tick, .int .i64 0]) ∧ IsS w' x (stepsD M S (fun _ : Nat => (ch, pl)) n) ∧ x.All (fun b => w.heap.size ≤ b) ∧ Below w.heap.size w w') := by
 have hn : n ≤ 1000000 := by omega
 have hc := hF.cur.check
 have hft := hF.tick
 refine calls_axM (vs := [.agg (machCells R M), RS.v S.tick, .agg #[.slice A1 l1 c1, .slice A2 l2 c2], .int .i64 (n : Int)]) Tryz.func25 rfl rfl ?_
 refine ac_seq (ac_region ?_)
 refine al_nb (r_box rfl rfl) ?_
 intro b1
 refine al_nb (r_box rfl rfl) ?_
 intro b2
 refine al_nb (r_box rfl rfl) ?_
 intro b3
 refine al_nb (r_alloc Tryz.zeroValue35 rfl) ?_
 intro b4
 refine al_p (q_assign rfl) (al_end (aq_then ?_))
 refine ac_seq (ac_seq (ac_region ?_))
 refine al_p (q_move rfl) (al_call Tryz.call47 (.cons rfl (.cons rfl (.cons rfl .nil))) rfl rfl (fun w1 hs1 => ?_))
 refine (cwithin_any (n : Int) 0 10000 _).mono ?_
 rintro e u1 ⟨rfl, hb_1⟩
 refine ⟨_, rfl, hb_1, ?_⟩
 clear hs1
 refine al_p (q_not rfl) (al_p (q_move rfl) ?_)
 refine aq_split 16 rfl (fun hb1 => ?_) (fun hb1 => ?_)
 ·exfalso; have := hb1; rw [wthn_iff.2 ⟨by omega, by omega⟩] at this; cases this
 ·skip
  refine al_p (q_fieldAddr 0 rfl Tryz.runUnderlying35 rfl Tryz.sizeOf3 de9 rfl) (al_p (q_load (i := 2) rfl rfl rfl Tryz.isAgg3) (al_p (q_move rfl) ?_))
  refine al_p (q_add rfl rfl om9) (al_p (q_gtr rfl rfl) (al_p (q_pickF rfl rfl) (al_end (aq_then ?_))))
  refine ac_cond rfl (fun h1 => ?_) (fun h1 => ?_)
  ·exfalso; have := of_decide_eq_true h1; omega
  ·skip
   refine ac_skip (aq_then (ac_seq (ac_region ?_)))
   refine al_p (q_loadAll (i := 1) rfl rfl Tryz.isAgg79 Tryz.sizeOf79 rfl) (al_new (fun b => .slice (some ⟨b, 0, none⟩) 1 1) (r_buildSlice (.cons rfl .nil) (kil_bs_apiDrive_1_0_ _ _)) rfl rfl rfl ?_)
   intro b5
   refine al_p (q_move rfl) (al_call Tryz.call50 (.cons rfl (.cons rfl .nil)) rfl rfl (fun w2 hs2 => ?_))
   refine (repeat1_any (some ⟨b5, 0, none⟩) 1 n ⟨A1, A2, l1, c1, l2, c2⟩ _ (isT_box0 (n := 2) (enc := DrvR.cells) (fun _ => rfl) (hs2.at 0 rfl) rfl rfl) hn).mono ?_
   rintro e u2 ⟨bL, rfl, NL, NLlt, hb_2⟩
   refine ⟨_, rfl, hb_2, ?_⟩
   clear hs2
   refine al_callS Tryz.call49 (.cons rfl .nil) rfl rfl (fun w3 hs3 => ?_)
   refine (values_any (some ⟨bL, 0, none⟩) n n _).mono ?_
   rintro e u3 ⟨bv, rfl, hb_3⟩
   refine ⟨_, _, _, rfl, hs3.gift hb_3, ?_⟩
   refine al_p (q_assign rfl) (al_end (aq_then ?_))
   refine ac_seq (ac_region ?_)
   refine al_nb (r_alloc Tryz.zeroValue35 rfl) ?_
   intro b6
   refine al_end (aq_then ?_)
   refine ac_seq (ac_seq (ac_draw 4 kr9 kr9 ?_))
   refine ah_t 0 (fun w9 hs => hs) rfl rfl kr9 (q_loadAll (i := 6) rfl rfl Tryz.isAgg29 Tryz.sizeOf29 rfl) (ah_t 2 (fun w9 hs => hs) rfl rfl kr9 (q_loadAll (i := 5) rfl rfl Tryz.isAgg35 Tryz.sizeOf35 rfl) (ah_t 3 (fun w9 hs => hs) rfl rfl kr9 (q_move rfl) (ah_one 1 rfl kr9 (fun hok1 hcl1 => ?_))))
   refine al_call Tryz.call51 (.cons rfl .nil) rfl rfl (fun w4 hs4 => ?_)
   refine (newCircuit_any R M _ (hM.below hs4.below) hc).mono ?_
   rintro e u4 ⟨Lk, cl, rows, rfl, NK, hb_4⟩
   refine ⟨_, rfl, hb_4, ?_⟩
   clear hs4
   refine al_end (ah_back hok1 hcl1 (fun w9 hs => (hs.fewer 1 rfl)) ?_)
   refine ah_one 4 rfl kr9 (fun hok2 hcl2 => ?_)
   refine al_callS Tryz.call52 (.cons rfl (.cons rfl (.cons rfl .nil))) rfl rfl (fun w5 hs5 => ?_)
   refine (states_any R M Lk cl RS S.tick (92) (.pointer (some ⟨bv, 0, none⟩)) _).mono ?_
   rintro e u5 ⟨bs, bd, bc, rfl, hb_5⟩
   refine ⟨_, _, _, rfl, hs5.gift hb_5, ?_⟩
   refine al_end (ah_last kr9 ?_)
   refine aq_then (ac_block (fun a9 v hf9 hs9 => (wpIn_wide (n := 0)).1 ?_))
   have hbw : Below w.heap.size w v := hs9.below
   have hbl := hs9.at 3 rfl
   have hl6 : w.heap.size ≤ b6 := (hs9.box 3 _ _ rfl).1.resolve_right (by simp)
   have nbs : bs ≠ b6 := fun e => by have := hs9.apart 1 3 b6 _ _ (by rw [← e]; rfl) rfl; omega
   have nbd : bd ≠ b6 := fun e => by have := hs9.apart 0 3 b6 _ _ (by rw [← e]; rfl) rfl; omega
   have nbc : bc ≠ b6 := fun e => by have := hs9.apart 2 3 b6 _ _ (by rw [← e]; rfl) rfl; omega
   have nbv : bv ≠ b6 := fun e => by have := hs9.apart 4 3 b6 _ _ (by rw [← e]; rfl) rfl; omega
   have hFc : ∀ V, KP [b6] v V → FcS R M Lk cl rows RS (stepsD M S (fun _ : Nat => (ch, pl)) 0) bs bd bc bv n n (some ⟨bL, 0, none⟩) (List.replicate n ⟨A1, A2, l1, c1, l2, c2⟩) (fun _ : Nat => (ch, pl)) V := fun V hk => by
    obtain ⟨q1, q2⟩ := kp_old hbw hk hl6
    refine ⟨hM.keep0 q1 q2, ⟨hs9.newT_kp (.head _) NK.out (i := 3) rfl hk, fun i r hr => hs9.newT_kp (.head _) (NK.row i r hr) (i := 3) rfl hk⟩, hS.keep0 q1 q2, box_kp (hs9.at 1 rfl) hk nbs, box_kp (hs9.at 2 rfl) hk nbc, box_kp (hs9.at 0 rfl) hk nbd 0 _ rfl, box_kp (hs9.at 4 rfl) hk nbv 0 _ rfl, hs9.newT_kp (.tail _ (.head _)) NL (i := 3) rfl hk, fun k r hr => ?_⟩
    obtain rfl : (⟨A1, A2, l1, c1, l2, c2⟩ : DrvR) = r := by
     obtain ⟨_, e⟩ := List.getElem?_eq_some_iff.1 hr
     rw [List.getElem_replicate] at e; exact e
    exact ⟨Same_keep i1 q1 q2, Same_keep i2 q1 q2⟩
   have hFit : ∀ k, k ≤ n → FitS M (stepsD M S (fun _ : Nat => (ch, pl)) k) := fun k hk => steps_fit hF k om9 (fun _ _ => hD)
   have lbl := (hs9.at 3 rfl).lt
   refine wpIn_range_all (X := [b6]) (zl := 1) (N := n + 1) (Good := GoodS (stepsD M S (fun _ : Nat => (ch, pl))) v.heap.size) (enc := fun x : StR × Int => x.1.v x.2) (hf9.ev rfl) Tryz.call97 (states1_any R M Lk cl rows RS (stepsD M S (fun _ : Nat => (ch, pl))) bs bd bc bv n n (some ⟨bL, 0, none⟩) (List.replicate n ⟨A1, A2, l1, c1, l2, c2⟩) (fun _ : Nat => (ch, pl)) [b6] v hn hFc (fun k _ => rfl) hFit (fun _ _ => hD) (hs9.at 1 rfl).lt (hs9.at 0 rfl).lt (hs9.at 2 rfl).lt (hs9.at 4 rfl).lt (by simpa using nbv) ?_ (fun x hx => by rw [List.mem_singleton.1 hx]; exact lbl)) (fun Z k V => (∀ z ∈ Z, v.heap.size ≤ z) ∧ Chg [b6] v V ∧ ∃ cs : List Value, BoxAt V b6 (.cells cs) ∧ cs.length = 6 ∧ (0 < k → ∃ x : StR, cs = stC x (stepsD M S (fun _ : Nat => (ch, pl)) (k - 1)).tick ∧ IsS V x (stepsD M S (fun _ : Nat => (ch, pl)) (k - 1)) ∧ x.All (fun b => b ∉ Z ∧ v.heap.size ≤ b))) ?_ ?_ ?_ ?_ ?_
   ·intro b o e
    cases e
    have hlt : bL < v.heap.size ∧ bL ≠ b6 := by
     obtain ⟨f0, f1, f2, f3, f5, f4⟩ := hs9.snap _ _ (.tail _ (.head _))
     have g1 := NL.new bL 0 rfl
     by_cases h0 : 0 < n
     ·obtain ⟨b', o', e', h1, h2⟩ := NL.isT.2 h0
      cases e'
      have := f4 3 b6 _ rfl
      exact ⟨by omega, by omega⟩
     ·have g2 := NLlt
      have := f4 3 b6 _ rfl
      exact ⟨by omega, by omega⟩
    exact ⟨by simpa using hlt.2, hlt.1⟩
   ·rintro Z k W1 W2 ⟨q0, q1, cs, q2, q3, q4⟩ hm
    refine ⟨q0, q1.mv hm (Nat.le_refl _) q0, cs, q2.blk (hm.block _ q2.lt (fun h => by have := q0 _ h; omega) (Or.inl lbl)) hm.size, q3, fun h => ?_⟩
    obtain ⟨x, r1, r2, r3⟩ := q4 h
    exact ⟨x, r1, r2.mv hm (r3.mono (fun b hb => hb.1)), r3⟩
   ·intro Z hZ hz
    exact ⟨fun z h => Nat.le_of_lt (hz z h), Chg.refl _ _, _, hbl, rfl, fun h => absurd h om9⟩
   ·rintro l2 Z k x V hl2 sV ⟨q0, q1, cs, q2, q3, q4⟩ ⟨hx1, hx2, hx3⟩ hk
    have hW2 : Wide (Fence.wide.inRound l2) := Or.inr ⟨l2, rfl⟩
    refine ci_go (hf9.setp (w1 := V) (bs' := []) (p := 34) rfl (x.1.v x.2)) (Sta.start _ _ _) ?_
    refine ci_region hW2 (fun ⟨a, w, h⟩ => h) rfl ?_
    refine al_nb (r_alloc Tryz.zeroValue35 rfl) ?_
    intro b7
    refine al_storeAll (i := 0) rfl rfl rfl rfl Tryz.sizeOf35 rfl rfl .k0 rfl (al_end (fun a1 W1 hf1 hs1 => ⟨Chg.of_below _ hs1.below, fun W2 hm2 => ?_⟩))
    have hmm : Mv v.heap.size [] V W2 := (Mv.of_chg (Chg.of_below _ hs1.below)).trans hm2
    have e2 := hmm.block b6 q2.lt (by simp) (Or.inl lbl)
    have hB2w : BoxAt W2 b6 (.cells cs) := q2.blk e2 hmm.size
    have hdxc : ∀ (j : Nat) (u : Value), (stC x.1 x.2)[j]? = some u → W2.cell? ⟨b7, 0 + j, none⟩ = some u := fun j u hu => by
     have h6 := hs1.at 0 rfl
     rw [Nat.zero_add]
     exact (cell_blk (hm2.block b7 h6.lt (by simp) (Or.inr h6.isCells))).trans ((h6.cell _ rfl j u hu).1)
    have lb3 : b7 < W2.heap.size := Nat.lt_of_lt_of_le (hs1.at 0 rfl).lt hm2.size
    have hn3 : b7 ≠ b6 := by have : V.heap.size ≤ b7 := (hs1.box 0 _ _ rfl).1.resolve_right (by simp); omega
    refine ci_go (hf1.rebase (w1 := W2) (bs' := [b6])) (Sta.lend _ _ _ b6 _ hB2w) ?_
    refine ci_block ?_
    refine ci_region hW2 (fun ⟨a, w, h⟩ => by cases (And.left (a := Exit.outgrown = Exit.normal) h)) rfl ?_
    refine al_p (q_loadXs (stC x.1 x.2) rfl Tryz.isAgg35 Tryz.sizeOf35 (fun w9 hs j9 v9 h9 => by rw [addr_add]; exact (hs.cellL lb3 (fun hm => hn3 (List.mem_singleton.1 hm))).trans (hdxc j9 v9 h9)) rfl) (al_storeAll (i := 0) rfl rfl rfl q3.symm Tryz.sizeOf35 rfl rfl .k0 rfl (al_end (aq_inN ?_)))
    refine fun a3 W3 hf3 hs3 => ⟨rfl, ⟨q0, ?_, stC x.1 x.2, ?_, rfl, fun _ => ⟨x.1, by rw [hx1]; rfl, ?_, hx3⟩⟩, hs3.chg⟩
    ·exact (q1.mv hmm (Nat.le_refl _) (fun z h => by cases h)).trans hs3.chg
    ·exact hs3.at 0 rfl
    ·exact (hx2.mv hmm (hx3.mono (fun b hb => by simp))).chg hs3.chg (hx3.mono (fun b hb => by simp; omega))
   ·exact fun x hx => by rw [List.mem_singleton.1 hx]; exact lbl
   ·rintro D Z Wd hD ⟨q0, q1, cs, q2, q3, q4⟩ hDd
    obtain ⟨x, rfl, r2, r3⟩ := q4 om9
    have hnb : n + 1 - 1 = n := by omega
    rw [hnb] at q2 r2
    have hD2 : D < Wd.heap.size := (Array.getElem?_eq_some_iff.1 hDd).1
    refine (?_ : AQ ⟨_, [_], w, []⟩ ((v.heap.size, Wd) :: _) _ _ _) _ _ (hf9.marked _) ((hs9.callC (i := 3) rfl q1 q2 .k3).defer _)
    refine aq_inN (aq_then (ac_seq (ac_region ?_)))
    refine al_p (q_loadAll (i := 3) rfl rfl Tryz.isAgg35 Tryz.sizeOf35 rfl) (al_storeAll (i := 6) rfl rfl rfl rfl Tryz.sizeOf35 rfl rfl .k6 rfl (al_p (q_assign rfl) (al_end (aq_then ?_))))
    refine ac_ret (retMD Tryz.results25 (.agg (i := 6) rfl rfl Tryz.isAgg35 Tryz.sizeOf35 rfl (.tmp rfl .nil)) .two (Nat.le_trans hbw.size hD) (fun w9 hs => ((hs.snap _ _ (.head _)).2.2.2.1 D hD hD2).trans hDd) (fun w9 w8 hs hm hc8 => ?_))
    have hb9 := hs.below
    refine ⟨x, rfl, ?_, r3.mono (fun b hb => Nat.le_trans hbw.size hb.2), ?_⟩
    ·refine IsS.mv (Z := []) ?_ hm (r3.mono (fun b hb => by simp))
     exact hs.isS (.head _) r2 (r3.mono (fun b hb => hb.2))
    ·exact below_chg hb9 hc8 (Nat.le_trans hbw.size hD)
end
section
open Go.RowKit
def zeroS : Value := .agg #[.int .i64 0, .slice none 0 0, .slice none 0 0, .slice none 0 0, .slice none 0 0, .slice none 0 0]
def zeroR : StR := ⟨⟨none, none, none, 0, 0, 0, 0, 0, 0⟩, none, none, 0, 0, 0, 0⟩
def OutS (w : World) (k : Int) (D : StD) (e : Ending) (w' : World) : Prop :=
 ∃ (x : StR) (n : Int), e = .returned (.tuple #[x.v n, .int .i64 k]) ∧ (k = 0 → n = D.tick ∧ IsS w' x D ∧ x.All (fun b => w.heap.size ≤ b)) ∧ (k ≠ 0 → n = 0 ∧ x = zeroR) ∧ Below w.heap.size w w'
theorem OutS.ok {w : World} {D : StD} {e : Ending} {w' : World} (h : ∃ x : StR, e = .returned (.tuple #[x.v D.tick, .int .i64 0]) ∧ IsS w' x D ∧ x.All (fun b => w.heap.size ≤ b) ∧ Below w.heap.size w w') : OutS w 0 D e w' :=
 h.elim fun x h => ⟨x, D.tick, h.1, fun _ => ⟨rfl, h.2.1, h.2.2.1⟩, fun h => absurd rfl h, h.2.2.2⟩
theorem OutS.bad {w : World} {k : Int} {D : StD} {e : Ending} {w' : World} (hk : k ≠ 0) (h : Ret (.tuple #[zeroS, .int .i64 k]) w e w') : OutS w k D e w' := ⟨zeroR, 0, h.1, fun h => absurd h hk, fun _ => ⟨rfl, rfl⟩, h.2⟩
end
section
open Go.RowKit
theorem kin_bl_apiState_ : ∀ w, (Instr.build 35 #[]).run Tryz.prog w = .ok (.agg #[(.int .i64 0), (.slice none 0 0), (.slice none 0 0), (.slice none 0 0), (.slice none 0 0), (.slice none 0 0)]) w := by
 intro w; simp [Instr.build, Instr.fill, cells_agg, Tryz.runUnderlying35, Tryz.zeroValue35, Tryz.sizeOf3, Tryz.sizeOf30, Tryz.sizeOf32, Tryz.sizeOf33]
set_option maxRecDepth 100000 in
theorem repeat_bad (R : MachR) (M : MachD) (RS : StR) (S : StD) (A1 A2 : Option Addr) (l1 c1 l2 c2 : Nat) (ch pl : List Int) (n : Int) (w : World) (hS : 0 ≤ S.tick ∧ S.tick ≤ 1000000000) (h : ¬ ((0 ≤ n ∧ n ≤ 10000) ∧ S.tick + n ≤ 1000000000)) : Calls Tryz.prog 25 #[(.agg (machCells R M)), (RS.v S.tick), (.agg #[.slice A1 l1 c1, .slice A2 l2 c2]), (.int .i64 n)] w (Ret (.tuple #[zeroS, .int .i64 7]) w) := by
 refine calls_ax (vs := [(.agg (machCells R M)), (RS.v S.tick), (.agg #[.slice A1 l1 c1, .slice A2 l2 c2]), (.int .i64 n)]) Tryz.func25 rfl rfl ?_
 refine ac_seq (ac_region ?_)
 refine al_nb (r_box rfl rfl) ?_
 intro b1
 refine al_nb (r_box rfl rfl) ?_
 intro b2
 refine al_nb (r_box rfl rfl) ?_
 intro b3
 refine al_nb (r_alloc Tryz.zeroValue35 rfl) ?_
 intro b4
 refine al_p (q_assign rfl) (al_end (aq_then ?_))
 refine ac_seq (ac_seq (ac_region ?_))
 refine al_p (q_move rfl) (al_call Tryz.call47 (.cons rfl (.cons rfl (.cons rfl .nil))) rfl rfl (fun w1 hs1 => ?_))
 refine (cwithin_any n 0 10000 _).mono ?_
 rintro e u1 ⟨rfl, hb_1⟩
 refine ⟨_, rfl, hb_1, ?_⟩
 clear hs1
 refine al_p (q_not rfl) (al_p (q_move rfl) ?_)
 refine aq_split 16 rfl (fun hb1 => ?_) (fun hb1 => ?_)
 ·skip
  refine al_skip rfl rfl rfl (al_skip rfl rfl rfl (al_skip rfl rfl rfl (al_skip rfl rfl rfl (al_skip rfl rfl rfl ?_))))
  refine al_p (q_pickT rfl rfl) (al_end (aq_then ?_))
  refine ac_condT rfl (ac_seq (ac_region ?_))
  refine al_p (q_build .nil (kin_bl_apiState_)) (al_storeAll (i := 0) rfl rfl rfl rfl Tryz.sizeOf35 rfl rfl .k0 rfl (al_p (q_assign rfl) (al_end (aq_then ?_))))
  refine ac_ret (aq_thenR (retR Tryz.results25 (.agg (i := 0) rfl rfl Tryz.isAgg35 Tryz.sizeOf35 rfl (.tmp rfl .nil)) .two (fun w9 hs => ?_)))
  exact ⟨rfl, hs.below⟩
 ·have hn := wthn_iff.1 (show wthn n 0 10000 = true by simpa using hb1)
  refine al_p (q_fieldAddr 0 rfl Tryz.runUnderlying35 rfl Tryz.sizeOf3 de9 rfl) (al_p (q_load (i := 2) rfl rfl rfl Tryz.isAgg3) (al_p (q_move rfl) ?_))
  refine al_p (q_add rfl rfl om9) (al_p (q_gtr rfl rfl) (al_p (q_pickF rfl rfl) (al_end (aq_then ?_))))
  refine ac_cond rfl (fun h1 => ?_) (fun h1 => ?_)
  ·skip
   refine ac_seq (ac_region ?_)
   refine al_p (q_build .nil (kin_bl_apiState_)) (al_storeAll (i := 0) rfl rfl rfl rfl Tryz.sizeOf35 rfl rfl .k0 rfl (al_p (q_assign rfl) (al_end (aq_then ?_))))
   refine ac_ret (aq_thenR (retR Tryz.results25 (.agg (i := 0) rfl rfl Tryz.isAgg35 Tryz.sizeOf35 rfl (.tmp rfl .nil)) .two (fun w9 hs => ?_)))
   exact ⟨rfl, hs.below⟩
  ·exfalso; have := of_decide_eq_false h1; omega
def repE (S : StD) (n : Int) : Int := if (0 ≤ n ∧ n ≤ 10000) ∧ S.tick + n ≤ 1000000000 then 0 else 7
theorem repeat_any (R : MachR) (M : MachD) (RS : StR) (S : StD) (A1 A2 : Option Addr) (l1 c1 l2 c2 : Nat) (ch pl : List Int) (n : Int) (w : World) (hM : IsM w R M) (hS : IsS w RS S) (hF : FitS M S) (i1 : IsT 1 intCells w A1 l1 ch) (i2 : IsT 1 intCells w A2 l2 pl) (hD : FitD M (ch, pl)) : Calls Tryz.prog 25 #[.agg (machCells R M), RS.v S.tick, .agg #[.slice A1 l1 c1, .slice A2 l2 c2], .int .i64 n] w (OutS w (repE S n) (stepsD M S (fun _ : Nat => (ch, pl)) n.toNat)) := by
 unfold repE
 split
 ·rename_i h
  obtain ⟨k, rfl⟩ := Int.eq_ofNat_of_zero_le h.1.1
  have h1 := h.1.2
  exact (repeat_ok R M RS S A1 A2 l1 c1 l2 c2 ch pl k w hM hS hF i1 i2 hD om9 h.2).mono fun e w' h => OutS.ok h
 ·rename_i h
  exact (repeat_bad R M RS S A1 A2 l1 c1 l2 c2 ch pl n w hF.tick h).mono fun e w' h => OutS.bad de9 h
theorem smallC {M : MachD} {R : MachR} {w : World} (hM : IsM w R M) (hc : checkC M = 0) : R.la ≤ 1000 ∧ R.lb ≤ 1000 := by
 have n1 := hM.coils.1
 have n2 := hM.shells.1
 have n5 := (sound_of hc).coils.1
 have n6 := (sound_of hc).shells.1
 omega
theorem fitD_of {M : MachD} {ch pl : List Int} (h1 : validCh M ch 1000000000000000 = true) (h2 : validPl M pl = true) : FitD M (ch, pl) := ⟨h1, fitP_iff.1 h2⟩
theorem outS_late {E : Cfg} {U : Snaps} {L : Boxes} {w0 w wi u : World} {k : Int} {D : StD} {x : StR} {n : Int} (hs : Sta E U L w) (hu : (wi.heap.size, u) ∈ U) (hz : w0.heap.size ≤ wi.heap.size) (hb : Below w0.heap.size w0 w) (h1 : k = 0 → n = D.tick ∧ IsS u x D ∧ x.All (fun b => wi.heap.size ≤ b)) (h2 : k ≠ 0 → n = 0 ∧ x = zeroR) : OutS w0 k D (.returned (.tuple #[x.v n, .int .i64 k])) w :=
 ⟨x, n, rfl, fun h => ⟨(h1 h).1, hs.isS hu (h1 h).2.1 (h1 h).2.2, (h1 h).2.2.mono (fun b hb => Nat.le_trans hz hb)⟩, h2, hb⟩
theorem zero_ch {M : MachD} : validCh M (zerosI M.coils.length) 1000000000000000 = true := validCh_iff.2 ⟨by simp [zerosI], fun x hx => by obtain ⟨_, rfl⟩ := List.mem_replicate.1 hx; omega⟩
theorem repE_zero {S : StD} {n : Int} (h : repE S n = 0) : (0 ≤ n ∧ n ≤ 10000) ∧ S.tick + n ≤ 1000000000 := by
 unfold repE at h; split at h
 ·assumption
 ·cases h
end
section
open Go.RowKit
def restB (M : MachD) (S : StD) (heat : List Int) (k : Nat) : Prop := iA heat k < iA S.heat k ∧ (cA M k).cool = 0
instance (M : MachD) (S : StD) (heat : List Int) (k : Nat) : Decidable (restB M S heat k) := inferInstanceAs (Decidable (_ ∧ _))
end
section
open Go.RowKit Go.Shelf
end
section
open Go.RowKit Go.Shelf
end
section
open Go.RowKit Go.Shelf
end
section
open Go.RowKit Go.Shelf
end
section
open Go.RowKit Go.Shelf
end
section
open Go.RowKit
theorem upTo {P : Nat → Prop} {x : Nat} (h : ∀ j, j < x → P j) (hx : P x) : ∀ j, j < x + 1 → P j := fun j hj => by
 rcases Nat.lt_or_ge j x with g | g
 ·exact h j g
 ·obtain rfl : j = x := by omega
  exact hx
theorem vsF {M : MachD} {S : StD} (h : ¬ FitS M S) : validS M S = false := by
 cases e : validS M S
 ·rfl
 ·exact absurd (fitS_iff.1 e) h
set_option maxRecDepth 100000 in
theorem rwithin3_any (n a b : Int) (w : World) : Calls Tryz.prog 42 #[(.int .i64 n), (.int .i64 a), (.int .i64 b)] w (Ret (.bool (wthn n a b)) w) := by
 refine calls_ax (vs := [(.int .i64 n), (.int .i64 a), (.int .i64 b)]) Tryz.func42 rfl rfl ?_
 refine ac_seq (ac_region ?_)
 refine al_p (q_assign rfl) (al_end (aq_then ?_))
 refine ac_seq (ac_region ?_)
 refine al_p (q_move rfl) (al_p (q_move rfl) (al_p (q_geq rfl rfl) (al_p (q_move rfl) ?_)))
 refine aq_split 10 rfl (fun hb1 => ?_) (fun hb1 => ?_)
 ·refine al_p (q_move rfl) (al_p (q_move rfl) (al_p (q_leq rfl rfl) (al_p (q_pickT rfl rfl) (al_p (q_assign rfl) ?_))))
  refine al_end (aq_then ?_)
  refine ac_ret (ret1 Tryz.results42 rfl (fun w9 hs => ?_))
  exact ⟨by first | (simp_all [wthn]; done) | (simp_all [wthn]; omega), hs.below⟩
 ·refine al_skip rfl rfl rfl (al_skip rfl rfl rfl (al_skip rfl rfl rfl (al_p (q_pickF rfl rfl) (al_p (q_assign rfl) ?_))))
  refine al_end (aq_then ?_)
  refine ac_ret (ret1 Tryz.results42 rfl (fun w9 hs => ?_))
  exact ⟨by first | (simp_all [wthn]; done) | (simp_all [wthn]; omega), hs.below⟩
set_option maxRecDepth 100000 in
theorem rvalidState_any (R : MachR) (M : MachD) (RS : StR) (S : StD) (w : World) (hM : IsM w R M) (hS : IsS w RS S) : Calls Tryz.prog 19 #[(.agg (machCells R M)), (RS.v S.tick)] w (Ret (.bool (validS M S)) w) := by
 have n1 := hM.coils.1
 have n2 := hS.heat.1
 have n3 := hS.trip.1
 have n4 := hS.kh
 refine calls_ax (vs := [(.agg (machCells R M)), (RS.v S.tick)]) Tryz.func19 rfl rfl ?_
 refine ac_seq (ac_region ?_)
 refine al_nb (r_box rfl rfl) ?_
 intro b1
 refine al_nb (r_box rfl rfl) ?_
 intro b2
 refine al_p (q_assign rfl) (al_end (aq_then ?_))
 refine ac_seq (ac_seq (ac_region ?_))
 refine al_p (q_loadAll (i := 1) rfl rfl Tryz.isAgg29 Tryz.sizeOf29 rfl) ?_
 refine al_p (q_fieldAddr 1 rfl Tryz.runUnderlying35 rfl Tryz.sizeOf32 de9 rfl) (al_p (q_loadSub (i := 0) rfl rfl Tryz.isAgg32 Tryz.sizeOf32 .k1 .k3) (al_call Tryz.call41 (.cons rfl (.cons rfl .nil)) rfl rfl (fun w1 hs1 => ?_)))
 refine (rvalid2_any R M RS.Q S.C _ (hM.below hs1.below) (hS.cur.below hs1.below)).mono ?_
 rintro e u1 ⟨rfl, hb_1⟩
 refine ⟨_, rfl, hb_1, ?_⟩
 clear hs1
 refine al_p (q_not rfl) (al_p (q_move rfl) ?_)
 refine aq_split 11 rfl (fun hb1 => ?_) (fun hb1 => ?_)
 ·have v1 : ¬ FitS M S := fun h => by rw [fit2_iff.2 h.cur] at hb1; cases hb1
  refine al_skip rfl rfl rfl (al_skip rfl rfl rfl (al_skip rfl rfl rfl (al_skip rfl rfl rfl (al_p (q_pickT rfl rfl) ?_))))
  refine al_p (q_move rfl) (al_skip rfl rfl rfl (al_skip rfl rfl rfl (al_skip rfl rfl rfl (al_skip rfl rfl rfl ?_))))
  refine al_skip rfl rfl rfl (al_skip rfl rfl rfl (al_skip rfl rfl rfl (al_p (q_pickT rfl rfl) (al_p (q_move rfl) ?_))))
  refine al_skip rfl rfl rfl (al_skip rfl rfl rfl (al_skip rfl rfl rfl (al_skip rfl rfl rfl (al_skip rfl rfl rfl ?_))))
  refine al_skip rfl rfl rfl (al_skip rfl rfl rfl (al_p (q_pickT rfl rfl) (al_end (aq_then ?_))))
  refine ac_condT rfl (ac_seq (ac_region ?_))
  refine al_p (q_assign rfl) (al_end (aq_then ?_))
  refine ac_ret (aq_thenR (ret1 Tryz.results19 rfl (fun w9 hs => ?_)))
  rw [vsF v1]; exact ⟨rfl, hs.below⟩
 ·have v1 := fit2_iff.1 (show validC M S.C = true by simpa using hb1)
  refine al_p (q_fieldAddr 0 rfl Tryz.runUnderlying35 rfl Tryz.sizeOf3 de9 rfl) (al_p (q_load (i := 0) rfl rfl rfl Tryz.isAgg3) (al_call Tryz.call42 (.cons rfl (.cons rfl (.cons rfl .nil))) rfl rfl (fun w2 hs2 => ?_)))
  refine (rwithin3_any S.tick 0 1000000000 _).mono ?_
  rintro e u2 ⟨rfl, hb_2⟩
  refine ⟨_, rfl, hb_2, ?_⟩
  clear hs2
  refine al_p (q_not rfl) (al_p (q_pickF rfl rfl) (al_p (q_move rfl) ?_))
  refine aq_split 17 rfl (fun hb2 => ?_) (fun hb2 => ?_)
  ·have v2 : ¬ FitS M S := fun h => by rw [wthn_iff.2 h.tick] at hb2; cases hb2
   refine al_skip rfl rfl rfl (al_skip rfl rfl rfl (al_skip rfl rfl rfl (al_skip rfl rfl rfl (al_skip rfl rfl rfl ?_))))
   refine al_skip rfl rfl rfl (al_skip rfl rfl rfl (al_p (q_pickT rfl rfl) (al_p (q_move rfl) (al_skip rfl rfl rfl ?_))))
   refine al_skip rfl rfl rfl (al_skip rfl rfl rfl (al_skip rfl rfl rfl (al_skip rfl rfl rfl (al_skip rfl rfl rfl ?_))))
   refine al_skip rfl rfl rfl (al_p (q_pickT rfl rfl) (al_end (aq_then ?_)))
   refine ac_condT rfl (ac_seq (ac_region ?_))
   refine al_p (q_assign rfl) (al_end (aq_then ?_))
   refine ac_ret (aq_thenR (ret1 Tryz.results19 rfl (fun w9 hs => ?_)))
   rw [vsF v2]; exact ⟨rfl, hs.below⟩
  ·have v2 := wthn_iff.1 (show wthn S.tick 0 1000000000 = true by simpa using hb2)
   refine al_p (q_fieldAddr 4 rfl Tryz.runUnderlying35 rfl Tryz.sizeOf30 de9 rfl) (al_p (q_load (i := 0) rfl rfl rfl Tryz.isAgg30) (al_p (q_lenS rfl Tryz.runUnderlying30) ?_))
   refine al_p (q_fieldAddr 1 rfl Tryz.runUnderlying29 rfl Tryz.sizeOf22 de9 rfl) (al_p (q_load (i := 1) rfl rfl rfl Tryz.isAgg22) (al_p (q_lenS rfl Tryz.runUnderlying22) (al_p (q_neq rfl rfl) (al_p (q_pickF rfl rfl) ?_))))
   refine al_p (q_move rfl) ?_
   refine aq_split 26 rfl (fun hb3 => ?_) (fun hb3 => ?_)
   ·have v3 : ¬ FitS M S := fun h => by have := h.heat.1; simp at hb3; omega
    refine al_skip rfl rfl rfl (al_skip rfl rfl rfl (al_skip rfl rfl rfl (al_skip rfl rfl rfl (al_skip rfl rfl rfl ?_))))
    refine al_skip rfl rfl rfl (al_skip rfl rfl rfl (al_p (q_pickT rfl rfl) (al_end (aq_then ?_))))
    refine ac_condT rfl (ac_seq (ac_region ?_))
    refine al_p (q_assign rfl) (al_end (aq_then ?_))
    refine ac_ret (aq_thenR (ret1 Tryz.results19 rfl (fun w9 hs => ?_)))
    rw [vsF v3]; exact ⟨rfl, hs.below⟩
   ·have v3 : S.heat.length = M.coils.length := by simp at hb3; omega
    refine al_p (q_fieldAddr 5 rfl Tryz.runUnderlying35 rfl Tryz.sizeOf33 de9 rfl) (al_p (q_load (i := 0) rfl rfl rfl Tryz.isAgg33) (al_p (q_lenS rfl Tryz.runUnderlying33) ?_))
    refine al_p (q_fieldAddr 1 rfl Tryz.runUnderlying29 rfl Tryz.sizeOf22 de9 rfl) (al_p (q_load (i := 1) rfl rfl rfl Tryz.isAgg22) (al_p (q_lenS rfl Tryz.runUnderlying22) (al_p (q_neq rfl rfl) (al_p (q_pickF rfl rfl) ?_))))
    refine al_end (aq_then ?_)
    refine ac_cond rfl (fun h1 => ?_) (fun h1 => ?_)
    ·have v4 : ¬ FitS M S := fun h => by have := h.trip; simp at h1; omega
     refine ac_seq (ac_region ?_)
     refine al_p (q_assign rfl) (al_end (aq_then ?_))
     refine ac_ret (aq_thenR (ret1 Tryz.results19 rfl (fun w9 hs => ?_)))
     rw [vsF v4]; exact ⟨rfl, hs.below⟩
    ·have v4 : S.trip.length = M.coils.length := by simp at h1; omega
     refine ac_skip (aq_then (ac_seq (ac_seq (ac_region ?_))))
     refine al_p (q_assign rfl) (al_end (aq_then ?_))
     refine ac_block (ac_loop (β := Nat) (fun x => x ≤ RS.lh ∧ ∀ j, j < x → 0 ≤ iA S.heat j ∧ iA S.heat j ≤ 1000000000000000) (fun x => [(3, (.pointer (some ⟨b2, 0, none⟩))), (4, (.bool false)), (5, (.int .i64 (x : Int)))]) (fun _ => _) (fun x => [(b2, _), (b1, _)]) (fun x => RS.lh - x) 0 ⟨by omega, fun j h => by omega⟩ ⟨rfl, rfl, rfl, trivial⟩ (fun w9 hs => hs) (fun x hF1 => ?_))
     refine ac_seq (ac_seq (ac_region ?_))
     refine al_p (q_move rfl) ?_
     refine al_p (q_fieldAddr 4 rfl Tryz.runUnderlying35 rfl Tryz.sizeOf30 de9 rfl) (al_p (q_load (i := 0) rfl rfl rfl Tryz.isAgg30) (al_p (q_lenS rfl Tryz.runUnderlying30) (al_p (q_lss rfl rfl) (al_end (aq_then ?_)))))
     refine ac_cond rfl (fun h2 => ?_) (fun h2 => ?_)
     ·have hxl : x < RS.lh := by have := of_decide_eq_true h2; omega
      obtain ⟨b21, o21, hA2, hlt2, hget2⟩ := hS.heat.2 om9
      have hx2 := iA_get (l := S.heat) (k := x) om9
      refine ac_skip (aq_then (ac_seq (ac_block (ac_seq (ac_region ?_)))))
      refine al_p (q_fieldAddr 4 rfl Tryz.runUnderlying35 rfl Tryz.sizeOf30 de9 rfl) (al_p (q_load (i := 0) rfl rfl rfl Tryz.isAgg30) (al_p (q_move rfl) ?_))
      refine al_p (q_indexAddrA (i := x) (o21 + x * 1 + 0) hA2 rfl rfl rfl om9 Tryz.runUnderlying30 Tryz.sizeOf3 rfl) (al_p (q_loadX rfl Tryz.isAgg3 (fun w9 hs => (hs.below.cell (p := ⟨_, _, none⟩) hlt2).trans ((hget2 x _ hx2) 0 _ rfl))) (al_call Tryz.call42 (.cons rfl (.cons rfl (.cons rfl .nil))) rfl rfl (fun w3 hs3 => ?_)))
      refine (rwithin3_any (iA S.heat x) 0 1000000000000000 _).mono ?_
      rintro e u3 ⟨rfl, hb_3⟩
      refine ⟨_, rfl, hb_3, ?_⟩
      clear hs3
      refine al_p (q_not rfl) (al_end (aq_then ?_))
      refine ac_cond rfl (fun h3 => ?_) (fun h3 => ?_)
      ·have v5 : ¬ FitS M S := fun h => by rw [wthn_iff.2 (h.heat.2 _ (List.mem_of_getElem? hx2))] at h3; cases h3
       refine ac_seq (ac_region ?_)
       refine al_p (q_assign rfl) (al_end (aq_then ?_))
       refine ac_ret (aq_inR (aq_thenR (aq_thenR (aq_inR ?_))))
       refine aq_thenR (ret1 Tryz.results19 rfl (fun w9 hs => ?_))
       rw [vsF v5]; exact ⟨rfl, hs.below⟩
      ·have v5 := wthn_iff.1 (show wthn (iA S.heat x) 0 1000000000000000 = true by simpa using h3)
       refine ac_skip (aq_inN (aq_then (ac_region (al_p (q_move rfl) ?_))))
       refine al_p (q_add rfl rfl om9) (al_p (q_assign rfl) (al_end (aq_then ?_)))
       skip
       refine aq_round (x + 1) om9 ⟨by omega, upTo hF1.2 v5⟩ ⟨rfl, rfl, rfl, trivial⟩ (fun w9 hs => (hs.fewer 1 rfl))
     ·have hxe : x = RS.lh := by have := of_decide_eq_false h2; omega
      refine ac_exit (aq_thenE (aq_thenE (aq_hit (aq_then ?_))))
      refine ac_seq (ac_region ?_)
      refine al_p (q_assign rfl) (al_end (aq_then ?_))
      refine ac_ret (ret1 Tryz.results19 rfl (fun w9 hs => ?_))
      rw [fitS_iff.2 ⟨v1, v2, ⟨v3, fun y hy => ?_⟩, v4⟩]
      ·exact ⟨rfl, hs.below⟩
      ·obtain ⟨j, hj, rfl⟩ := List.mem_iff_getElem.1 hy
       have := hF1.2 j om9
       rwa [iA_of (List.getElem?_eq_getElem hj)] at this
end
end Go.Proofs.YthggkidiidnaoaaGreat
