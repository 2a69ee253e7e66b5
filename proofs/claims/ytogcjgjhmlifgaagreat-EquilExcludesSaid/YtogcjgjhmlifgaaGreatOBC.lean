import Derived.Test.YtogcjgjhmlifgaaGreatOAA
import Derived.Test.YtogcjgjhmlifgaaGreatOBA
import Derived.Test.YtogcjgjhmlifgaaGreatOBB
import Derived.Test.YtogcjgjhmlifgaaGreatRows
import Derived.KernelRfl
import Derived.Laws.StructEq
namespace Go.Proofs.YtogcjgjhmlifgaaGreat
set_option linter.unusedVariables false
set_option linter.unusedSimpArgs false
section
open Go.RowKit
theorem flat_setE {α : Type} {enc : α → List Value} {z : Nat} (hl : ∀ x, (enc x).length = z) (i : Nat) (hi : i < z) (v : Value) (x y : α) (e : enc y = (enc x).set i v) : ∀ (zs : List α) (k : Nat), zs[k]? = some x → (zs.flatMap enc).set (k * z + i) v = (zs.set k y).flatMap enc
  | [], k, h => by simp at h
  | a :: r, 0, h => by
    obtain rfl : a = x := by simpa using h
    rw [List.flatMap_cons, Nat.zero_mul, Nat.zero_add, List.set_append_left _ _ (by rw [hl]; exact hi), List.set_cons_zero, List.flatMap_cons, e]
  | a :: r, k + 1, h => by
    rw [List.flatMap_cons, List.set_append_right _ _ (by rw [hl, Nat.add_mul]; omega), hl, List.set_cons_succ, List.flatMap_cons]
    rw [show (k + 1) * z + i - z = k * z + i by rw [Nat.add_mul]; omega, flat_setE hl i hi v x y e r k (by simpa using h)]
theorem flat_spl : ∀ zs : List SpanD, (zs.flatMap SpanD.cells).length = zs.length * 2
  | [] => rfl
  | x :: r => by rw [List.flatMap_cons, List.length_append, flat_spl r, List.length_cons]; show 2 + _ = _; omega
theorem set_new {B b n c i f : Nat} {w : World} {zs : List SpanD} {sp : List Value} {v : Int} {y : SpanD} (h : BoxAt w b (.cells ((zs.flatMap SpanD.cells ++ sp).set (0 + i * 2 + f) (.int .i64 v)))) (hB : B ≤ b) (hi : i < zs.length) (hf : f < 2) (he : SpanD.cells y = (SpanD.cells (spA zs i)).set f (.int .i64 v)) (hn : zs.length = n) (hc : n ≤ c) (hk : c ≤ 9223372036854775807) : NewT 2 SpanD.cells B w (some ⟨b, 0, none⟩) n c (zs.set i y) := by
  rw [Nat.zero_add, List.set_append_left _ _ (by rw [flat_spl]; omega), flat_setE (z := 2) (fun _ => rfl) f hf _ _ y he zs i (spA_get hi)] at h
  exact ⟨isT_box (n := 2) (enc := SpanD.cells) (fun _ => rfl) h rfl (by rw [List.length_set, hn]), fun b' o e => (by cases e; exact hB), hc, hk⟩
theorem chk_iff {v r : Bool} : chkE v r = 0 ↔ v = true ∧ r = true := by
  unfold chkE; cases v <;> cases r <;> simp
theorem box_at {M : MachD} {t : Int} {xs : List SpanD} {k : Nat} (h : FitX M t xs) (hk : k < xs.length) : 0 ≤ (spA xs k).lo ∧ (spA xs k).lo ≤ (spA xs k).hi ∧ (spA xs k).hi ≤ t := h.each _ (spA_mem hk)
section
variable {P : Program} {e0 : Cfg} {U : Snaps} {l : Slots} {L : Boxes} {ops : Array Oper} {Q : Exit → Act → World → Prop} {rest : List Oper} {d : Nat} {v : Value}
variable {ty : TypeId} {pos : String} {af : Array Edge} {g : Option (Nat × Bool)} {dd : Option Nat}
end
def chkS (M : MachD) (t i : Int) (xs : List SpanD) : Int := chkE (boxB M t xs) (wthn t 1 1000000 && wthn i 0 ((xs.length : Int) - 1))
def midX (xs : List SpanD) (i : Nat) : Int := middleL (spA xs i).lo (spA xs i).hi
def loX (xs : List SpanD) (i : Nat) : List SpanD := xs.set i ⟨(spA xs i).lo, midX xs i⟩
def upX (xs : List SpanD) (i : Nat) : List SpanD := xs.set i ⟨midX xs i, (spA xs i).hi⟩
def spR (M : MachD) (t i : Int) (xs ys : List SpanD) : List SpanD := if chkS M t i xs = 0 then ys else []
def OutD (w : World) (E : Int) (zs ys : List SpanD) (e : Ending) (w' : World) : Prop := ∃ A n c B m d, e = .returned (.tuple #[.slice A n c, .slice B m d, .int .i64 E]) ∧ NewT 2 SpanD.cells w.heap.size w' A n c zs ∧ NewT 2 SpanD.cells w.heap.size w' B m d ys ∧ Below w.heap.size w w'
theorem newT_nil {α : Type} {z B : Nat} {enc : α → List Value} {w : World} : NewT z enc B w none 0 0 ([] : List α) := ⟨IsT.nil _ _ _ _, fun b o e => (by cases e), Nat.le_refl _, by omega⟩
def hdP (xs : List SpanD) (js : List Int) (n : Nat) : Prop := ∀ k, k < n → wthn (iA js k) (spA xs k).lo (spA xs k).hi = true
instance (xs : List SpanD) (js : List Int) (n : Nat) : Decidable (hdP xs js n) := Nat.decidableBallLT n (fun k _ => wthn (iA js k) (spA xs k).lo (spA xs k).hi = true)
theorem vbox_yes (R : MachR) (M : MachD) (X : Option Addr) (nx cx : Nat) (xs : List SpanD) (t : Int) (w : World) (hM : IsM w R M) (hS : IsT 2 SpanD.cells w X nx xs) (h : boxB M t xs = true) : Calls Tryz.prog 51 #[.agg (mCs R M).toArray, .int .i64 t, .slice X nx cx] w (Ret (.bool true) w) := by
  have h9 := validBox_any R M X nx cx xs t w hM hS
  rwa [h] at h9
theorem chk_yes (w : World) : Calls Tryz.prog 50 #[.bool true, .bool true] w (Ret (.int .i64 0) w) := chk5_any true true w
theorem eqd_bs_apiSpan_0_ : ∀ w, (Instr.buildSlice 45 0 #[]).run Tryz.prog w = .ok (.slice (some ⟨w.heap.size, 0, none⟩) 0 0) (w.alloc (.cells [].toArray 52)) := by
  intro w; (simp [Instr.buildSlice, Instr.fill, cells_agg, newRow, Tryz.runUnderlying45, Tryz.zeroValue52, Tryz.sizeOf52] <;> (rw [(by kernel_rfl : Array.range 0 = #[])]; simp [Value.cells]))
set_option maxRecDepth 100000 in
theorem split_ok (R : MachR) (M : MachD) (A : Addr) (nx cx : Nat) (xs : List SpanD) (t : Int) (i : Nat) (w : World) (hM : IsM w R M) (hS : IsT 2 SpanD.cells w (some A) nx xs) (hi : i < nx) (hv : boxB M t xs = true) (t0 : 1 ≤ t) (t1 : t ≤ 1000000) : Calls Tryz.prog 19 #[(.agg (mCs R M).toArray), (.int .i64 t), (.slice (some A) nx cx), (.int .i64 (i : Int))] w (OutD w 0 (loX xs i) (upX xs i)) := by
  have n1 := hS.1
  have n5 := cellN_eq (boxB_iff.1 hv).check
  have n3 := (boxB_iff.1 hv).len
  obtain ⟨b11, o11, hA1, hlt1, hget1⟩ := hS.2 (by omega)
  have hx1 := spA_get (x := xs) (k := i) (by omega)
  refine calls_ax (vs := [(.agg (mCs R M).toArray), (.int .i64 t), (.slice (some A) nx cx), (.int .i64 (i : Int))]) Tryz.func19 rfl rfl ?_
  refine ac_seq (ac_region ?_)
  refine al_new (fun b => .pointer (some ⟨b, 0, none⟩)) (r_box rfl rfl) rfl rfl rfl ?_
  intro b1
  refine al_p (q_assign rfl) (al_p (q_assign rfl) (al_p (q_assign rfl) (al_end (aq_then ?_))))
  refine ac_seq (ac_seq (ac_region ?_))
  refine al_p (q_loadAll (i := 0) rfl rfl Tryz.isAgg29 Tryz.sizeOf29 rfl) (al_p (q_move rfl) (al_p (q_move rfl) (al_call Tryz.call51 (.cons rfl (.cons rfl (.cons rfl .nil))) rfl rfl (fun w1 hs1 => ?_))))
  refine (vbox_yes R M (some A) nx cx xs t _ (hM.below hs1.below) (hS.below hs1.below) hv).mono ?_
  rintro e u1 ⟨rfl, hb_1⟩
  refine ⟨_, rfl, hb_1, ?_⟩
  clear hs1
  refine al_p (q_move rfl) (al_call Tryz.call47 (.cons rfl .nil) rfl rfl (fun w2 hs2 => ?_))
  refine (tot_yes t _ t0 t1).mono ?_
  rintro e u2 ⟨rfl, hb_2⟩
  refine ⟨_, rfl, hb_2, ?_⟩
  clear hs2
  refine al_p (q_move rfl) (al_p (q_move rfl) (al_p (q_move rfl) (al_p (q_lenS rfl Tryz.runUnderlying45) ?_)))
  refine al_p (q_sub rfl rfl (by omega)) (al_call Tryz.call46 (.cons rfl (.cons rfl (.cons rfl .nil))) rfl rfl (fun w3 hs3 => ?_))
  refine (wth_yes (i : Int) 0 ((nx : Int) - 1) _ (by omega) (by omega)).mono ?_
  rintro e u3 ⟨rfl, hb_3⟩
  refine ⟨_, rfl, hb_3, ?_⟩
  clear hs3
  refine al_p (q_pickT rfl rfl) (al_call Tryz.call50 (.cons rfl (.cons rfl .nil)) rfl rfl (fun w4 hs4 => ?_))
  refine (chk_yes _).mono ?_
  rintro e u4 ⟨rfl, hb_4⟩
  refine ⟨_, rfl, hb_4, ?_⟩
  clear hs4
  refine al_p (q_assign rfl) (al_end (aq_then ?_))
  refine ac_seq (ac_region ?_)
  refine al_p (q_move rfl) ?_
  refine al_p (q_same (v' := .bool false) (q_neq rfl rfl) (by simp)) (al_end (aq_then ?_))
  refine ac_condF rfl (ac_skip (aq_then (ac_seq (ac_region ?_))))
  refine al_p (q_move rfl) (al_inl Tryz.call56 (.cons rfl .nil) rfl rfl Tryz.func56 rfl rfl ?_)
  refine ac_seq (ac_region ?_)
  refine al_p (q_assign rfl) (al_end (aq_then ?_))
  refine ac_seq (ac_seq (ac_region ?_))
  refine al_p (q_move rfl) (al_p (q_eqlNil1 rfl Tryz.underlying45) (al_end (aq_then ?_)))
  refine ac_condF rfl (ac_skip (aq_then (ac_seq (ac_region ?_))))
  refine al_new (fun b => .slice (some ⟨b, 0, none⟩) 0 0) (r_buildSlice .nil (eqd_bs_apiSpan_0_)) rfl rfl rfl ?_
  intro b2
  refine al_p (q_move rfl) ?_
  refine al_appendS (i := 0) (z := 2) (bytes := 16) (zv := (.agg #[.int .i64 0, .int .i64 0])) (xs := []) (sp := []) (vs := (xs.flatMap SpanD.cells)) rfl rfl (by simp) (by simp) (by omega) (by omega) rfl (Sor.list (enc := SpanD.cells) (zs := xs) (fun _ => rfl) (fun _ => rfl) hS.1 (fun w9 hs => hS.below hs.below)) Tryz.underlying45 (by kernel_rfl) rfl (by omega) (by decide) rfl rfl (fun b3 c_b3 sp_b3 hc_b3 hk_b3 hl_b3 => ?_)
  refine ⟨_, .k0, ?_⟩
  refine al_p (q_assign rfl) (al_end (aq_then ?_))
  refine ac_ret (retI Tryz.results56 (.tmp rfl .nil) .one ?_)
  refine al_p (q_move rfl) (al_inl Tryz.call56 (.cons rfl .nil) rfl rfl Tryz.func56 rfl rfl ?_)
  refine ac_seq (ac_region ?_)
  refine al_p (q_assign rfl) (al_end (aq_then ?_))
  refine ac_seq (ac_seq (ac_region ?_))
  refine al_p (q_move rfl) (al_p (q_eqlNil1 rfl Tryz.underlying45) (al_end (aq_then ?_)))
  refine ac_condF rfl (ac_skip (aq_then (ac_seq (ac_region ?_))))
  refine al_new (fun b => .slice (some ⟨b, 0, none⟩) 0 0) (r_buildSlice .nil (eqd_bs_apiSpan_0_)) rfl rfl rfl ?_
  intro b4
  refine al_p (q_move rfl) ?_
  refine al_appendS (i := 0) (z := 2) (bytes := 16) (zv := (.agg #[.int .i64 0, .int .i64 0])) (xs := []) (sp := []) (vs := (xs.flatMap SpanD.cells)) rfl rfl (by simp) (by simp) (by omega) (by omega) rfl (Sor.list (enc := SpanD.cells) (zs := xs) (fun _ => rfl) (fun _ => rfl) hS.1 (fun w9 hs => hS.below hs.below)) Tryz.underlying45 (by kernel_rfl) rfl (by omega) (by decide) rfl rfl (fun b5 c_b5 sp_b5 hc_b5 hk_b5 hl_b5 => ?_)
  refine ⟨_, .k0, ?_⟩
  refine al_p (q_assign rfl) (al_end (aq_then ?_))
  refine ac_ret (retI Tryz.results56 (.tmp rfl .nil) .one ?_)
  refine al_p (q_assign rfl) (al_p (q_assign rfl) (al_end (aq_then ?_)))
  refine ac_seq (ac_region ?_)
  refine al_p (q_move rfl) (al_p (q_move rfl) ?_)
  refine al_p (q_indexAddrA (i := i) (o11 + i * 2 + 0) hA1 rfl rfl rfl (by omega) Tryz.runUnderlying45 Tryz.sizeOf52 rfl) (al_p (q_loadXs (SpanD.cells (spA xs i)) rfl Tryz.isAgg52 Tryz.sizeOf52 (fun w9 hs j9 v9 h9 => by rw [addr_add]; exact (hs.below.cell (p := ⟨_, _, none⟩) hlt1).trans ((hget1 i _ hx1) j9 v9 h9)) rfl) (al_call Tryz.call57 (.cons rfl .nil) rfl rfl (fun w5 hs5 => ?_)))
  refine (middle_any (spA xs i).lo (spA xs i).hi _).mono ?_
  rintro e u5 ⟨rfl, hb_5⟩
  refine ⟨_, rfl, hb_5, ?_⟩
  clear hs5
  refine al_p (q_assign rfl) (al_end (aq_then ?_))
  refine ac_seq (ac_region ?_)
  refine al_p (q_move rfl) (al_p (q_move rfl) (al_p (q_move rfl) (al_p (q_move rfl) (al_p (q_move rfl) ?_))))
  refine al_p (q_move rfl) ?_
  refine al_p (q_indexAddr (i := i) (0 + i * 2) rfl rfl rfl (by omega) Tryz.runUnderlying45 Tryz.sizeOf52 rfl) ?_
  refine al_p (q_fieldAddr (0 + i * 2 + 1) rfl Tryz.runUnderlying52 rfl Tryz.sizeOf3 (by decide) rfl) ?_
  refine al_store1 (i := 1) rfl rfl rfl rfl Tryz.sizeOf3 (SetAt.ofSet (by simp only [List.length_append, List.nil_append, flat_spl]; omega)) .k1 rfl ?_
  refine al_p (q_indexAddr (i := i) (0 + i * 2) rfl rfl rfl (by omega) Tryz.runUnderlying45 Tryz.sizeOf52 rfl) ?_
  refine al_p (q_fieldAddr (0 + i * 2) rfl Tryz.runUnderlying52 rfl Tryz.sizeOf3 (by decide) rfl) ?_
  refine al_store1 (i := 0) rfl rfl rfl rfl Tryz.sizeOf3 (SetAt.ofSet (by simp only [List.length_append, List.nil_append, flat_spl]; omega)) .k0 rfl (al_end (aq_then ?_))
  refine ac_seq (ac_region ?_)
  refine al_p (q_move rfl) (al_p (q_move rfl) (al_p (q_assign rfl) (al_p (q_assign rfl) (al_p (q_assign rfl) ?_))))
  refine al_end (aq_then ?_)
  refine ac_ret (retR Tryz.results19 (.tmp rfl (.tmp rfl (.tmp rfl .nil))) .two (fun w9 hs => ?_))
  exact ⟨_, _, _, _, _, _, rfl, set_new (f := 1) (y := ⟨(spA xs i).lo, midX xs i⟩) (hs.at 1 rfl) (hs.new 1 rfl _ _ rfl) (by omega) (by decide) rfl (by omega) hc_b3 hk_b3, set_new (f := 0) (y := ⟨midX xs i, (spA xs i).hi⟩) (hs.at 0 rfl) (hs.new 0 rfl _ _ rfl) (by omega) (by decide) rfl (by omega) hc_b5 hk_b5, hs.below⟩
set_option maxRecDepth 100000 in
theorem split_bad (R : MachR) (M : MachD) (X : Option Addr) (nx cx : Nat) (xs : List SpanD) (t i : Int) (w : World) (hM : IsM w R M) (hS : IsT 2 SpanD.cells w X nx xs) (hlen : nx ≤ 1000000000000000) (h : chkS M t i xs ≠ 0) : Calls Tryz.prog 19 #[(.agg (mCs R M).toArray), (.int .i64 t), (.slice X nx cx), (.int .i64 i)] w (Ret (.tuple #[.slice none 0 0, .slice none 0 0, .int .i64 (chkS M t i xs)]) w) := by
  have n1 := hS.1
  refine calls_ax (vs := [(.agg (mCs R M).toArray), (.int .i64 t), (.slice X nx cx), (.int .i64 i)]) Tryz.func19 rfl rfl ?_
  refine ac_seq (ac_region ?_)
  refine al_new (fun b => .pointer (some ⟨b, 0, none⟩)) (r_box rfl rfl) rfl rfl rfl ?_
  intro b1
  refine al_p (q_assign rfl) (al_p (q_assign rfl) (al_p (q_assign rfl) (al_end (aq_then ?_))))
  refine ac_seq (ac_seq (ac_region ?_))
  refine al_p (q_loadAll (i := 0) rfl rfl Tryz.isAgg29 Tryz.sizeOf29 rfl) (al_p (q_move rfl) (al_p (q_move rfl) (al_call Tryz.call51 (.cons rfl (.cons rfl (.cons rfl .nil))) rfl rfl (fun w1 hs1 => ?_))))
  refine (validBox_any R M X nx cx xs t _ (hM.below hs1.below) (hS.below hs1.below)).mono ?_
  rintro e u1 ⟨rfl, hb_1⟩
  refine ⟨_, rfl, hb_1, ?_⟩
  clear hs1
  refine al_p (q_move rfl) (al_call Tryz.call47 (.cons rfl .nil) rfl rfl (fun w2 hs2 => ?_))
  refine (total5_any t _).mono ?_
  rintro e u2 ⟨rfl, hb_2⟩
  refine ⟨_, rfl, hb_2, ?_⟩
  clear hs2
  refine al_p (q_move rfl) ?_
  refine aq_split 19 rfl (fun hb1 => ?_) (fun hb1 => ?_)
  · have hw : wthn t 1 1000000 = true := hb1
    refine al_p (q_move rfl) (al_p (q_move rfl) (al_p (q_lenS rfl Tryz.runUnderlying45) ?_))
    refine al_p (q_sub rfl rfl (by omega)) (al_call Tryz.call46 (.cons rfl (.cons rfl (.cons rfl .nil))) rfl rfl (fun w3 hs3 => ?_))
    refine (within5_any i 0 ((nx : Int) - 1) _).mono ?_
    rintro e u3 ⟨rfl, hb_3⟩
    refine ⟨_, rfl, hb_3, ?_⟩
    clear hs3
    refine al_p (q_pickT rfl rfl) (al_call Tryz.call50 (.cons rfl (.cons rfl .nil)) rfl rfl (fun w4 hs4 => ?_))
    refine (chk5_any ((boxB M t xs)) ((wthn i 0 ((nx : Int) - 1))) _).mono ?_
    rintro e u4 ⟨rfl, hb_4⟩
    refine ⟨_, rfl, hb_4, ?_⟩
    clear hs4
    refine al_p (q_assign rfl) (al_end (aq_then ?_))
    refine ac_seq (ac_region ?_)
    refine al_p (q_move rfl) (al_p (q_neq rfl rfl) (al_end (aq_then ?_)))
    refine ac_cond rfl (fun h1 => ?_) (fun h1 => ?_)
    · skip
      refine ac_seq (ac_region ?_)
      refine al_p (q_move rfl) (al_p (q_assign rfl) (al_p (q_assign rfl) (al_p (q_assign rfl) (al_end (aq_then ?_)))))
      refine ac_ret (aq_thenR (retR Tryz.results19 (.tmp rfl (.tmp rfl (.tmp rfl .nil))) .two (fun w9 hs => ?_)))
      unfold chkS; rw [hw, n1]; exact ⟨rfl, hs.below⟩
    · exfalso; refine h ?_; unfold chkS; rw [hw, n1]; simpa using h1
  · have hw : wthn t 1 1000000 = false := hb1
    refine al_skip rfl rfl rfl (al_skip rfl rfl rfl (al_skip rfl rfl rfl (al_skip rfl rfl rfl (al_skip rfl rfl rfl ?_))))
    refine al_p (q_pickF rfl rfl) (al_call Tryz.call50 (.cons rfl (.cons rfl .nil)) rfl rfl (fun w5 hs5 => ?_))
    refine (chk5_any ((boxB M t xs)) (false) _).mono ?_
    rintro e u5 ⟨rfl, hb_5⟩
    refine ⟨_, rfl, hb_5, ?_⟩
    clear hs5
    refine al_p (q_assign rfl) (al_end (aq_then ?_))
    refine ac_seq (ac_region ?_)
    refine al_p (q_move rfl) (al_p (q_neq rfl rfl) (al_end (aq_then ?_)))
    refine ac_cond rfl (fun h2 => ?_) (fun h2 => ?_)
    · skip
      refine ac_seq (ac_region ?_)
      refine al_p (q_move rfl) (al_p (q_assign rfl) (al_p (q_assign rfl) (al_p (q_assign rfl) (al_end (aq_then ?_)))))
      refine ac_ret (aq_thenR (retR Tryz.results19 (.tmp rfl (.tmp rfl (.tmp rfl .nil))) .two (fun w9 hs => ?_)))
      unfold chkS; rw [hw, n1]; exact ⟨rfl, hs.below⟩
    · exfalso; refine h ?_; unfold chkS; rw [hw, n1]; simpa using h2
theorem split_any (R : MachR) (M : MachD) (X : Option Addr) (nx cx : Nat) (xs : List SpanD) (t i : Int) (w : World) (hM : IsM w R M) (hS : IsT 2 SpanD.cells w X nx xs) (hlen : nx ≤ 1000000000000000) : Calls Tryz.prog 19 #[.agg (mCs R M).toArray, .int .i64 t, .slice X nx cx, .int .i64 i] w (OutD w (chkS M t i xs) (spR M t i xs (loX xs i.toNat)) (spR M t i xs (upX xs i.toNat))) := by
  by_cases h : chkS M t i xs = 0
  · obtain ⟨h1, h2⟩ := chk_iff.1 h
    rw [Bool.and_eq_true, wthn_iff, wthn_iff, hS.1] at h2
    obtain ⟨j, rfl⟩ := Int.eq_ofNat_of_zero_le h2.2.1
    obtain ⟨b, o, e, -⟩ := hS.2 (by omega)
    subst e
    have h9 := split_ok R M ⟨b, o, none⟩ nx cx xs t j w hM hS (by omega) h1 (by omega) (by omega)
    unfold spR
    rw [if_pos h, if_pos h, h]
    exact h9
  · unfold spR
    rw [if_neg h, if_neg h]
    exact (split_bad R M X nx cx xs t i w hM hS hlen h).mono fun e w' h9 => ⟨none, 0, 0, none, 0, 0, h9.1, newT_nil, newT_nil, h9.2⟩
set_option maxRecDepth 100000 in
theorem holds5_any (X : Option Addr) (nx cx : Nat) (xs : List SpanD) (J : Option Addr) (nj cj : Nat) (js : List Int) (w : World) (hS : IsT 2 SpanD.cells w X nx xs) (hJ : IsT 1 intCells w J nj js) (hlen : nx ≤ 1000000000000000) : Calls Tryz.prog 23 #[(.slice X nx cx), (.slice J nj cj)] w (Ret (.bool (decide (nx = nj ∧ hdP xs js nx))) w) := by
  have n1 := hS.1
  have n2 := hJ.1
  refine calls_ax (vs := [(.slice X nx cx), (.slice J nj cj)]) Tryz.func23 rfl rfl ?_
  refine ac_seq (ac_region ?_)
  refine al_p (q_assign rfl) (al_end (aq_then ?_))
  refine ac_seq (ac_seq (ac_region ?_))
  refine al_p (q_move rfl) (al_p (q_lenS rfl Tryz.runUnderlying45) (al_p (q_move rfl) (al_p (q_lenS rfl Tryz.runUnderlying30) (al_p (q_neq rfl rfl) ?_))))
  refine al_end (aq_then ?_)
  refine ac_cond rfl (fun h1 => ?_) (fun h1 => ?_)
  · have hne : ¬ (nx = nj ∧ hdP xs js nx) := fun h => by have := h.1; simp at h1; omega
    refine ac_seq (ac_region ?_)
    refine al_p (q_assign rfl) (al_end (aq_then ?_))
    refine ac_ret (aq_thenR (ret1 Tryz.results23 rfl (fun w9 hs => ?_)))
    rw [decide_eq_false hne]; exact ⟨rfl, hs.below⟩
  · have hxy : nx = nj := by simp at h1; omega
    refine ac_skip (aq_then (ac_seq (ac_seq (ac_region ?_))))
    refine al_p (q_move rfl) (al_p (q_lenS rfl Tryz.runUnderlying45) (al_p (q_move rfl) (al_end (aq_then ?_))))
    refine ac_block (ac_loop (β := Nat) (fun k => k ≤ nx ∧ hdP xs js k) (fun k => [(1, (.slice J nj cj)), (4, (.bool false)), (12, (.slice X nx cx)), (13, (.int .i64 (nx : Int))), (14, (.int .i64 (k : Int)))]) (fun _ => _) (fun k => []) (fun k => nx - k) 0 ⟨by omega, fun j h => by omega⟩ ⟨rfl, rfl, rfl, rfl, rfl, trivial⟩ (fun w9 hs => hs) (fun k hF1 => ?_))
    refine ac_seq (ac_region ?_)
    refine al_p (q_lss rfl rfl) (al_end (aq_then ?_))
    refine ac_seq ?_
    refine ac_cond rfl (fun h2 => ?_) (fun h2 => ?_)
    · have hkn : k < nx := by have := of_decide_eq_true h2; omega
      obtain ⟨b11, o11, hA1, hlt1, hget1⟩ := hS.2 (by omega)
      have hx1 := spA_get (x := xs) (k := k) (by omega)
      obtain ⟨b21, o21, hA2, hlt2, hget2⟩ := hJ.2 (by omega)
      have hx2 := iA_get (l := js) (k := k) (by omega)
      refine ac_skip (aq_then (ac_seq (ac_block (ac_seq (ac_region ?_)))))
      refine al_p (q_move rfl) ?_
      refine al_p (q_indexAddrA (i := k) (o11 + k * 2 + 0) hA1 rfl rfl rfl (by omega) Tryz.runUnderlying45 Tryz.sizeOf52 rfl) (al_p (q_loadXs (SpanD.cells (spA xs k)) rfl Tryz.isAgg52 Tryz.sizeOf52 (fun w9 hs j9 v9 h9 => by rw [addr_add]; exact (hs.below.cell (p := ⟨_, _, none⟩) hlt1).trans ((hget1 k _ hx1) j9 v9 h9)) rfl) (al_new (fun b => .pointer (some ⟨b, 0, none⟩)) (r_alloc Tryz.zeroValue52 rfl) rfl rfl rfl ?_))
      intro b1
      refine al_p (q_assign rfl) (al_storeAll (i := 0) rfl rfl rfl rfl Tryz.sizeOf52 rfl rfl .k0 rfl (al_end (aq_then ?_)))
      refine ac_seq (ac_draw 9 (by kernel_rfl) (by kernel_rfl) ?_)
      refine ah_t 0 (fun w9 hs => hs) rfl rfl (by kernel_rfl) (q_move rfl) (ah_t 1 (fun w9 hs => hs) rfl rfl (by kernel_rfl) (q_move rfl) ?_)
      refine ah_t 2 (fun w9 hs => hs) rfl rfl (by kernel_rfl) (q_indexAddrA (i := k) (o21 + k * 1 + 0) hA2 rfl rfl rfl (by omega) Tryz.runUnderlying30 Tryz.sizeOf3 rfl) (ah_t 3 (fun w9 hs => hs) rfl rfl (by kernel_rfl) (q_loadX rfl Tryz.isAgg3 (fun w9 hs => (hs.below.cell (p := ⟨_, _, none⟩) hlt2).trans ((hget2 k _ hx2) 0 _ rfl))) ?_)
      refine ah_t 4 (fun w9 hs => hs) rfl rfl (by kernel_rfl) (q_fieldAddr 0 rfl Tryz.runUnderlying52 rfl Tryz.sizeOf3 (by decide) rfl) (ah_t 5 (fun w9 hs => hs) rfl rfl (by kernel_rfl) (q_load (i := 0) rfl rfl rfl Tryz.isAgg3) ?_)
      refine ah_t 6 (fun w9 hs => hs) rfl rfl (by kernel_rfl) (q_fieldAddr 1 rfl Tryz.runUnderlying52 rfl Tryz.sizeOf3 (by decide) rfl) (ah_t 7 (fun w9 hs => hs) rfl rfl (by kernel_rfl) (q_load (i := 0) rfl rfl rfl Tryz.isAgg3) (ah_one 8 rfl (by kernel_rfl) (fun hok1 hcl1 => ?_)))
      refine al_call Tryz.call46 (.cons rfl (.cons rfl (.cons rfl .nil))) rfl rfl (fun w1 hs1 => ?_)
      refine (within5_any (iA js k) (spA xs k).lo (spA xs k).hi _).mono ?_
      rintro e u1 ⟨rfl, hb_1⟩
      refine ⟨_, rfl, hb_1, ?_⟩
      clear hs1
      refine al_end (ah_back hok1 hcl1 (fun w9 hs => (hs.fewer 1 rfl)) ?_)
      refine ah_t 9 (fun w9 hs => (hs.fewer 1 rfl)) rfl rfl (by kernel_rfl) (q_not rfl) (ah_done (by kernel_rfl) ?_)
      refine aq_then ?_
      refine ac_cond rfl (fun h3 => ?_) (fun h3 => ?_)
      · have hne : ¬ (nx = nj ∧ hdP xs js nx) := fun h => by have h9 := h.2 k hkn; rw [h9] at h3; cases h3
        refine ac_seq (ac_region ?_)
        refine al_p (q_assign rfl) (al_end (aq_then ?_))
        refine ac_ret (aq_inR (aq_thenR (aq_thenR (aq_inR ?_))))
        refine aq_thenR (ret1 Tryz.results23 rfl (fun w9 hs => ?_))
        rw [decide_eq_false hne]; exact ⟨rfl, hs.below⟩
      · have hok : (wthn (iA js k) (spA xs k).lo (spA xs k).hi) = true := by simpa using h3
        refine ac_skip (aq_inN (aq_then (ac_region ?_)))
        refine al_p (q_add rfl rfl (by omega)) (al_p (q_move rfl) (al_end (aq_then ?_)))
        skip
        refine aq_round (k + 1) (by omega) ⟨by omega, fun j h1 => (Nat.lt_or_ge j k).elim (fun g => hF1.2 j g) (fun g => by (have e : j = k := by omega); rw [e]; exact hok)⟩ ⟨rfl, rfl, rfl, rfl, rfl, trivial⟩ (fun w9 hs => ((hs.fewer 1 rfl).tail 1 rfl))
    · have hke : k = nx := by have := of_decide_eq_false h2; omega
      refine ac_exit (aq_thenE (aq_thenE (aq_hit (aq_then ?_))))
      refine ac_seq (ac_region ?_)
      refine al_p (q_assign rfl) (al_end (aq_then ?_))
      refine ac_ret (ret1 Tryz.results23 rfl (fun w9 hs => ?_))
      rw [decide_eq_true (show nx = nj ∧ hdP xs js nx from ⟨hxy, by rw [← hke]; exact hF1.2⟩)]; exact ⟨rfl, hs.below⟩
end
end Go.Proofs.YtogcjgjhmlifgaaGreat
