import Derived.Test.YtogcjgjhmlifgaaGreatOAK
import Derived.Test.YtogcjgjhmlifgaaGreatOAZ
import Derived.Test.YtogcjgjhmlifgaaGreatRows
import Derived.KernelRfl
import Derived.Laws.StructEq
namespace Go.Proofs.YtogcjgjhmlifgaaGreat
set_option linter.unusedVariables false
set_option linter.unusedSimpArgs false
section
open Go.RowKit
abbrev mE : MachD := ⟨⟨#[97]⟩, [], [], [⟨1, 0⟩], ⟨0, 0, 1, 1, 1⟩, []⟩
abbrev cE : CurD := ⟨[], [], [0]⟩
abbrev rE (xl : Nat) : MachR := ⟨none, none, some ⟨xl, 0, none⟩, none, 0, 0, 0, 0, 1, 1, 0, 0⟩
abbrev qE (xp : Nat) : CurR := ⟨none, none, some ⟨xp, 0, none⟩, 0, 0, 0, 0, 1, 1⟩
theorem valE : validC mE cE = true := by kernel_rfl
theorem fitE : Fit2 mE cE := fit2_iff.1 valE
theorem chkE0 : checkC mE = 0 := fitE.check
theorem fitXE {x : SpanD} (h : 0 ≤ x.lo ∧ x.lo ≤ x.hi ∧ x.hi ≤ 9) : FitX mE 9 [x] := ⟨chkE0, rfl, fun a ha => by rw [List.mem_singleton.1 ha]; exact h⟩
theorem imE0 : imE mE cE [⟨9, 9⟩] = 0 := by kernel_rfl
theorem imE1 : imR mE cE 9 [⟨9, 9⟩] = [⟨9, 9⟩] := by kernel_rfl
theorem imE2 : imE mE cE [⟨8, 9⟩] = 0 := by kernel_rfl
theorem imE3 : imR mE cE 9 [⟨8, 9⟩] = [⟨9, 9⟩] := by kernel_rfl
theorem ismE {w : World} {xl : Nat} (h : BoxAt w xl (.cells [.int .i64 1, .int .i64 0])) : IsM w (rE xl) mE :=
  ⟨IsT.nil _ _ _ _, IsT.nil _ _ _ _, isT_box0 (n := 2) (enc := PointD.cells) (fun _ => rfl) h rfl rfl, IsT.nil _ _ _ _, by simp, by simp, by simp, by simp, by simp, by simp, by simp, by simp, by simp, by simp, by simp, by simp⟩
theorem iscE {w : World} {xp : Nat} (h : BoxAt w xp (.cells [.int .i64 0])) : IsC w (qE xp) cE :=
  ⟨IsT.nil _ _ _ _, IsT.nil _ _ _ _, isT_box0 (n := 1) (enc := intCells) (fun _ => rfl) h rfl rfl, by simp, by simp, by simp, by simp, by simp, by simp, by simp, by simp, by simp⟩
theorem image_ex (A A2 X : Option Addr) (c c2 cx : Nat) (x : SpanD) (w : World) (hK : IsT 1 intCells w A 2 (knL mE cE (ptA mE) 2)) (hI : IsT 1 intCells w A2 2 (itL mE (ptA mE) 2)) (hc2 : 2 ≤ c2) (hS : IsT 2 SpanD.cells w X 1 [x]) (hx : 0 ≤ x.lo ∧ x.lo ≤ x.hi ∧ x.hi ≤ 9) (h0 : imE mE cE [x] = 0) (h1 : imR mE cE 9 [x] = [⟨9, 9⟩]) :
    Calls Tryz.prog 82 #[.agg #[.slice A 2 c, .int .i64 1, .slice A2 2 c2], .int .i64 9, .slice X 1 cx] w (fun e w' => ∃ B d, e = .returned (.tuple #[.slice B 1 d, .int .i64 0]) ∧ NewT 2 SpanD.cells w.heap.size w' B 1 d [⟨9, 9⟩] ∧ Below w.heap.size w w') := by
  have h := image_any mE cE A A2 X c c2 1 cx [x] 9 w fitE (fitXE hx) (by omega) (by omega) hK hI hc2 hS
  rw [h0, h1] at h
  refine h.mono ?_
  rintro e w' ⟨B, n, d, rfl, hN, hb⟩
  have hn : n = 1 := hN.isT.1.symm
  subst hn
  exact ⟨B, d, rfl, hN, hb⟩
theorem around_ex (J : Option Addr) (cj : Nat) (w : World) (hJ : IsT 1 intCells w J 1 [9]) : Calls Tryz.prog 131 #[.slice J 1 cj, .int .i64 1, .int .i64 9] w (fun e w' => ∃ A c, e = .returned (.slice A 1 c) ∧ NewT 2 SpanD.cells w.heap.size w' A 1 c [⟨8, 9⟩] ∧ Below w.heap.size w w') :=
  around_any J 1 cj [9] 1 9 w hJ (by omega) (by omega) (by omega) (by simp)
theorem points_ex (J : Option Addr) (cj : Nat) (w : World) (hJ : IsT 1 intCells w J 1 [9]) : Calls Tryz.prog 84 #[.slice J 1 cj] w (fun e w' => ∃ A c, e = .returned (.slice A 1 c) ∧ NewT 2 SpanD.cells w.heap.size w' A 1 c [⟨9, 9⟩] ∧ Below w.heap.size w w') := points_any J 1 cj [9] w hJ (by omega)
theorem even_ex (w : World) : Calls Tryz.prog 14 #[.int .i64 1, .int .i64 9] w (fun e w' => ∃ A c, e = .returned (.slice A 1 c) ∧ NewT 1 intCells w.heap.size w' A 1 c [9] ∧ Below w.heap.size w w') := even_ok 1 9 w (by omega) (by omega) (by omega) (by omega)
theorem equalI_ex (X Y : Option Addr) (cx cy : Nat) (w : World) (h1 : IsT 1 intCells w X 1 [9]) (h2 : IsT 1 intCells w Y 1 [9]) : Calls Tryz.prog 129 #[.slice X 1 cx, .slice Y 1 cy] w (Ret (.bool true) w) := by
  have h := equalI_any X Y 1 cx 1 cy [9] [9] w h1 h2 (by omega)
  rwa [decide_eq_true (show 1 = 1 ∧ eqPI [9] [9] 1 from ⟨rfl, fun _ _ => rfl⟩)] at h
theorem equalS_exT (X Y : Option Addr) (cx cy : Nat) (w : World) (h1 : IsT 2 SpanD.cells w X 1 [⟨9, 9⟩]) (h2 : IsT 2 SpanD.cells w Y 1 [⟨9, 9⟩]) : Calls Tryz.prog 133 #[.slice X 1 cx, .slice Y 1 cy] w (Ret (.bool true) w) := by
  have h := equalS_any X Y 1 cx 1 cy [⟨9, 9⟩] [⟨9, 9⟩] w h1 h2 (by omega)
  rwa [decide_eq_true (show 1 = 1 ∧ eqPS [⟨9, 9⟩] [⟨9, 9⟩] 1 from ⟨rfl, fun _ _ => ⟨rfl, rfl⟩⟩)] at h
theorem equalS_exF (X Y : Option Addr) (cx cy : Nat) (w : World) (h1 : IsT 2 SpanD.cells w X 1 [⟨9, 9⟩]) (h2 : IsT 2 SpanD.cells w Y 1 [⟨8, 9⟩]) : Calls Tryz.prog 133 #[.slice X 1 cx, .slice Y 1 cy] w (Ret (.bool false) w) := by
  have h := equalS_any X Y 1 cx 1 cy [⟨9, 9⟩] [⟨8, 9⟩] w h1 h2 (by omega)
  rwa [decide_eq_false (show ¬ (1 = 1 ∧ eqPS [⟨9, 9⟩] [⟨8, 9⟩] 1) from fun h => absurd (h.2 0 (by decide)).1 (by decide))] at h
theorem lies_ex (X Y : Option Addr) (cx cy : Nat) (w : World) (h1 : IsT 2 SpanD.cells w X 1 [⟨9, 9⟩]) (h2 : IsT 2 SpanD.cells w Y 1 [⟨8, 9⟩]) : Calls Tryz.prog 164 #[.slice X 1 cx, .slice Y 1 cy] w (Ret (.bool true) w) := by
  have h := lies5_any X Y 1 cx 1 cy [⟨9, 9⟩] [⟨8, 9⟩] w h1 h2 (by omega) (by omega)
  rwa [decide_eq_true (show lieP [⟨9, 9⟩] [⟨8, 9⟩] 1 from fun k hk => by (have e : k = 0 := by omega); subst e; decide)] at h
def meetF (a b : SpanD) : SpanD × Int := (⟨(meetL a.lo a.hi b.lo b.hi).1, (meetL a.lo a.hi b.lo b.hi).2.1⟩, (meetL a.lo a.hi b.lo b.hi).2.2)
theorem combine_ex (X Y : Option Addr) (cx cy : Nat) (x : SpanD) (w : World) (h1 : IsT 2 SpanD.cells w X 1 [x]) (h2 : IsT 2 SpanD.cells w Y 1 [⟨9, 9⟩]) (h0 : meetF x ⟨9, 9⟩ = (⟨9, 9⟩, 0)) : Calls Tryz.prog 52 #[.slice X 1 cx, .slice Y 1 cy, .func (.func 53) #[] #[]] w (fun e w' => ∃ B d, e = .returned (.tuple #[.slice B 1 d, .int .i64 0]) ∧ NewT 2 SpanD.cells w.heap.size w' B 1 d [⟨9, 9⟩] ∧ Below w.heap.size w w') := by
  have hz : ∀ k, k < 1 → (meetF (spA [x] k) (spA [⟨9, 9⟩] k)).2 = 0 := fun k hk => by
    have e : k = 0 := by omega
    subst e
    exact congrArg Prod.snd h0
  have h := combine_any meetF 53 X Y 1 cx 1 cy [x] [⟨9, 9⟩] w Tryz.call53 (fun a b W => meet9_any a.lo a.hi b.lo b.hi W) h1 h2 (by omega) (by omega) (fun k hk => Or.inl (hz k hk))
  rw [show cbE meetF [x] [⟨9, 9⟩] 1 = 0 from if_pos hz, show cbR meetF [x] [⟨9, 9⟩] 1 = [⟨9, 9⟩] from (if_pos hz).trans (show [(meetF x ⟨9, 9⟩).1] = [⟨9, 9⟩] by rw [h0])] at h
  refine h.mono ?_
  rintro e w' ⟨B, n, d, rfl, hN, hb⟩
  have hn : n = 1 := hN.isT.1.symm
  subst hn
  exact ⟨B, d, rfl, hN, hb⟩
set_option maxRecDepth 100000 in
theorem round_ex (J : Option Addr) (cj : Nat) (A A2 : Option Addr) (c c2 : Nat) (w : World) (hK : IsT 1 intCells w A 2 (knL mE cE (ptA mE) 2)) (hI : IsT 1 intCells w A2 2 (itL mE (ptA mE) 2)) (hc2 : 2 ≤ c2) (hJ : IsT 1 intCells w J 1 [9]) : Calls Tryz.prog 128 #[(.agg #[.slice A 2 c, .int .i64 1, .slice A2 2 c2]), (.int .i64 9), (.slice J 1 cj)] w (fun e w' => ∃ b, e = .returned (.tuple #[.slice (some ⟨b, 0, none⟩) 1 1, .int .i64 0]) ∧ Own w [(b, .cells [.int .i64 9])] w') := by
  refine calls_ax (vs := [(.agg #[.slice A 2 c, .int .i64 1, .slice A2 2 c2]), (.int .i64 9), (.slice J 1 cj)]) Tryz.func128 rfl rfl ?_
  refine ac_seq (ac_region ?_)
  refine al_new (fun b => .pointer (some ⟨b, 0, none⟩)) (r_box rfl rfl) rfl rfl rfl ?_
  intro b1
  refine al_p (q_assign rfl) (al_p (q_assign rfl) (al_end (aq_then ?_)))
  refine ac_seq (ac_draw 9 (by kernel_rfl) (by kernel_rfl) ?_)
  refine ah_t 0 (fun w9 hs => hs) rfl rfl (by kernel_rfl) (q_loadAll (i := 0) rfl rfl Tryz.isAgg97 Tryz.sizeOf97 rfl) (ah_t 1 (fun w9 hs => hs) rfl rfl (by kernel_rfl) (q_move rfl) (ah_t 2 (fun w9 hs => hs) rfl rfl (by kernel_rfl) (q_move rfl) (ah_one 3 rfl (by kernel_rfl) (fun hok1 hcl1 => ?_))))
  refine al_call Tryz.call84 (.cons rfl .nil) rfl rfl (fun w1 hs1 => ?_)
  refine (points_ex _ _ _ (hJ.below hs1.below)).mono ?_
  rintro e u1 ⟨B1, d1, rfl, N1, hb_1⟩
  refine ⟨_, rfl, hb_1, ?_⟩
  clear hs1
  refine al_end (ah_back hok1 hcl1 (fun w9 hs => (hs.fewer 1 rfl)) ?_)
  refine ah_one 4 rfl (by kernel_rfl) (fun hok2 hcl2 => ?_)
  refine al_call Tryz.call82 (.cons rfl (.cons rfl (.cons rfl .nil))) rfl rfl (fun w2 hs2 => ?_)
  refine (image_ex A A2 _ c c2 _ ⟨9, 9⟩ _ (hK.below hs2.below) (hI.below hs2.below) hc2 (hs2.newT (.head _) N1) (by decide) imE0 imE1).mono ?_
  rintro e u2 ⟨B2, d2, rfl, N2, hb_2⟩
  obtain ⟨b21, o21, hA2, hlt2, hget2⟩ := N2.isT.2 (by decide)
  refine ⟨_, rfl, hb_2, ?_⟩
  clear hs2
  refine al_end (ah_back hok2 hcl2 (fun w9 hs => (hs.fewer 2 rfl)) ?_)
  refine ah_t 5 (fun w9 hs => (hs.fewer 2 rfl)) rfl rfl (by kernel_rfl) (q_move rfl) (ah_t 6 (fun w9 hs => (hs.fewer 2 rfl)) rfl rfl (by kernel_rfl) (q_extract rfl rfl) (ah_t 7 (fun w9 hs => (hs.fewer 2 rfl)) rfl rfl (by kernel_rfl) (q_extract rfl rfl) (ah_one 8 rfl (by kernel_rfl) (fun hok3 hcl3 => ?_))))
  refine al_p (q_assign rfl) (al_end (ah_back hok3 hcl3 (fun w9 hs => (hs.fewer 2 rfl)) ?_))
  refine ah_one 9 rfl (by kernel_rfl) (fun hok4 hcl4 => ?_)
  refine al_p (q_assign rfl) (al_end (ah_last (by kernel_rfl) ?_))
  refine aq_then (ac_seq (ac_seq (ac_region ?_)))
  refine al_p (q_move rfl) (al_p (q_same (v' := .bool false) (q_neq rfl rfl) rfl) (al_end (aq_then ?_)))
  refine ac_condF rfl (ac_skip (aq_then (ac_seq (ac_region ?_))))
  refine al_p (q_move rfl) (al_p (q_same (v' := .int .i64 1) (q_lenS rfl Tryz.runUnderlying30) rfl) ?_)
  refine al_makeInts (n := 1) (z := (.int .i64 0)) (bytes := 8) rfl rfl rfl Tryz.underlying30 (by kernel_rfl) rfl (by omega) (by decide) rfl rfl ?_
  intro b2
  refine al_p (q_move rfl) (al_p (q_assign rfl) (al_p (q_assign rfl) (al_end (aq_then ?_))))
  refine ac_seq (ac_seq (ac_region ?_))
  refine al_p (q_move rfl) (al_p (q_same (v' := .int .i64 1) (q_lenS rfl Tryz.runUnderlying45) rfl) (al_p (q_move rfl) (al_end (aq_then ?_))))
  refine ac_block (ac_loop1 ?_)
  refine ac_seq (ac_region ?_)
  refine al_p (q_same (v' := .bool true) (q_lss rfl rfl) rfl) (al_end (aq_then ?_))
  refine ac_seq (ac_condT rfl (ac_skip (aq_then (ac_seq ?_))))
  refine ac_block (ac_seq (ac_region ?_))
  refine al_p (q_move rfl) ?_
  refine al_p (q_indexAddrA (i := 0) (o21 + 0 * 2 + 0) hA2 rfl rfl rfl (by omega) Tryz.runUnderlying45 Tryz.sizeOf52 rfl) (al_p (q_loadXs [.int .i64 9, .int .i64 9] rfl Tryz.isAgg52 Tryz.sizeOf52 (fun w9 hs j9 v9 h9 => by rw [addr_add]; exact (cell_blkx ((hs.snap _ _ (.head _)).2.2.2.1 b21 (N2.new _ _ hA2) hlt2)).trans ((hget2 0 _ rfl) j9 v9 h9)) rfl) (al_new (fun b => .pointer (some ⟨b, 0, none⟩)) (r_alloc Tryz.zeroValue52 rfl) rfl rfl rfl ?_))
  intro b3
  refine al_p (q_assign rfl) (al_storeAll (i := 0) rfl rfl rfl rfl Tryz.sizeOf52 rfl rfl .k0 rfl (al_end (aq_then ?_)))
  refine ac_seq (ac_region ?_)
  refine al_p (q_move rfl) (al_p (q_move rfl) ?_)
  refine al_p (q_fieldAddr 0 rfl Tryz.runUnderlying52 rfl Tryz.sizeOf3 (by decide) rfl) (al_p (q_load (i := 0) rfl rfl rfl Tryz.isAgg3) ?_)
  refine al_p (q_indexAddr (i := 0) (0) rfl rfl rfl (by omega) Tryz.runUnderlying30 Tryz.sizeOf3 (by omega)) ?_
  refine al_store1 (i := 1) rfl rfl rfl rfl Tryz.sizeOf3 (SetAt.ofSet (by decide)) .k1 rfl (al_end (aq_then ?_))
  refine ac_region (al_p (q_move rfl) ?_)
  refine al_p (q_fieldAddr 0 rfl Tryz.runUnderlying52 rfl Tryz.sizeOf3 (by decide) rfl) (al_p (q_load (i := 0) rfl rfl rfl Tryz.isAgg3) ?_)
  refine al_p (q_same (v' := .int .i64 0) (q_sub rfl rfl (by omega)) rfl) (al_p (q_assign rfl) (al_end (aq_inN (aq_then ?_))))
  refine ac_region ?_
  refine al_p (q_same (v' := .int .i64 1) (q_add rfl rfl (by omega)) rfl) (al_p (q_move rfl) (al_end (aq_then (aq_again ?_))))
  refine ac_seq (ac_region ?_)
  refine al_p (q_same (v' := .bool false) (q_lss rfl rfl) rfl) (al_end (aq_then ?_))
  refine ac_seq (ac_condF rfl (ac_exit (aq_thenE (aq_thenE ?_))))
  refine aq_hit (aq_then (ac_seq (ac_seq (ac_region ?_))))
  refine al_p (q_move rfl) (al_p (q_same (v' := .int .i64 1) (q_lenS rfl Tryz.runUnderlying45) rfl) (al_p (q_move rfl) (al_end (aq_then ?_))))
  refine ac_block (ac_loop1 ?_)
  refine ac_seq (ac_region ?_)
  refine al_p (q_same (v' := .bool true) (q_lss rfl rfl) rfl) (al_end (aq_then ?_))
  refine ac_seq (ac_condT rfl (ac_skip (aq_then (ac_seq ?_))))
  refine ac_block (ac_seq (ac_region ?_))
  refine al_p (q_move rfl) ?_
  refine al_p (q_indexAddrA (i := 0) (o21 + 0 * 2 + 0) hA2 rfl rfl rfl (by omega) Tryz.runUnderlying45 Tryz.sizeOf52 rfl) (al_p (q_loadXs [.int .i64 9, .int .i64 9] rfl Tryz.isAgg52 Tryz.sizeOf52 (fun w9 hs j9 v9 h9 => by rw [addr_add]; exact (cell_blkx ((hs.snap _ _ (.head _)).2.2.2.1 b21 (N2.new _ _ hA2) hlt2)).trans ((hget2 0 _ rfl) j9 v9 h9)) rfl) (al_new (fun b => .pointer (some ⟨b, 0, none⟩)) (r_alloc Tryz.zeroValue52 rfl) rfl rfl rfl ?_))
  intro b4
  refine al_p (q_assign rfl) (al_storeAll (i := 0) rfl rfl rfl rfl Tryz.sizeOf52 rfl rfl .k0 rfl (al_end (aq_then ?_)))
  refine ac_seq (ac_region ?_)
  refine al_p (q_fieldAddr 1 rfl Tryz.runUnderlying52 rfl Tryz.sizeOf3 (by decide) rfl) (al_p (q_load (i := 0) rfl rfl rfl Tryz.isAgg3) (al_p (q_same (v' := .bool true) (q_gtr rfl rfl) rfl) (al_p (q_move rfl) (al_p (q_move rfl) ?_))))
  refine al_p (q_same (v' := .bool false) (q_gtr rfl rfl) rfl) (al_p (q_pickT rfl rfl) (al_end (aq_then ?_)))
  refine ac_condF rfl (ac_skip (aq_inN (aq_then (ac_region ?_))))
  refine al_p (q_same (v' := .int .i64 1) (q_add rfl rfl (by omega)) rfl) (al_p (q_move rfl) (al_end (aq_then (aq_again ?_))))
  refine ac_seq (ac_region ?_)
  refine al_p (q_same (v' := .bool false) (q_lss rfl rfl) rfl) (al_end (aq_then ?_))
  refine ac_seq (ac_condF rfl (ac_exit (aq_thenE (aq_thenE ?_))))
  refine aq_hit (aq_then (ac_seq (ac_region ?_)))
  refine al_p (q_move rfl) (al_p (q_assign rfl) (al_p (q_assign rfl) (al_end (aq_then ?_))))
  refine ac_ret (ret2 Tryz.results128 rfl rfl (fun w9 hs => ?_))
  exact ⟨b2, rfl, hs.own (.cons (j := 2) rfl .nil) (by decide)⟩
set_option maxRecDepth 100000 in
theorem iterate_ex (J : Option Addr) (cj : Nat) (A A2 : Option Addr) (c c2 : Nat) (w : World) (hK : IsT 1 intCells w A 2 (knL mE cE (ptA mE) 2)) (hI : IsT 1 intCells w A2 2 (itL mE (ptA mE) 2)) (hc2 : 2 ≤ c2) (hJ : IsT 1 intCells w J 1 [9]) : Calls Tryz.prog 85 #[(.agg #[.slice A 2 c, .int .i64 1, .slice A2 2 c2]), (.int .i64 9), (.slice J 1 cj), (.int .i64 60)] w (fun e w' => ∃ B d, e = .returned (.tuple #[.slice B 1 d, .int .i64 0, .int .i64 0]) ∧ NewT 1 intCells w.heap.size w' B 1 d [9] ∧ Below w.heap.size w w') := by
  refine calls_ax (vs := [(.agg #[.slice A 2 c, .int .i64 1, .slice A2 2 c2]), (.int .i64 9), (.slice J 1 cj), (.int .i64 60)]) Tryz.func85 rfl rfl ?_
  refine ac_seq (ac_region ?_)
  refine al_new (fun b => .pointer (some ⟨b, 0, none⟩)) (r_box rfl rfl) rfl rfl rfl ?_
  intro b1
  refine al_p (q_assign rfl) (al_p (q_assign rfl) (al_p (q_assign rfl) (al_end (aq_then ?_))))
  refine ac_seq (ac_region ?_)
  refine al_p (q_move rfl) (al_call Tryz.call127 (.cons rfl .nil) rfl rfl (fun w1 hs1 => ?_))
  have hz5 := hs1.below.size
  refine (cloneJx_any _ 1 _ [9] _ (hJ.below hs1.below) (by omega)).mono ?_
  rintro e u1 ⟨B5, d5, rfl, N5, hb_1⟩
  refine ⟨_, rfl, hb_1, ?_⟩
  clear hs1
  refine al_p (q_assign rfl) (al_end (aq_then ?_))
  refine ac_seq (ac_seq (ac_region ?_))
  refine al_p (q_move rfl) (al_p (q_move rfl) (al_end (aq_then ?_)))
  refine ac_block (ac_loop1 ?_)
  refine ac_seq (ac_region ?_)
  refine al_p (q_same (v' := .bool true) (q_lss rfl rfl) rfl) (al_end (aq_then ?_))
  refine ac_seq (ac_condT rfl (ac_skip (aq_then (ac_seq ?_))))
  refine ac_block (ac_seq (ac_region ?_))
  refine al_p (q_move rfl) (al_p (q_assign rfl) (al_end (aq_then ?_)))
  refine ac_seq (ac_region ?_)
  refine al_p (q_loadAll (i := 0) rfl rfl Tryz.isAgg97 Tryz.sizeOf97 rfl) (al_p (q_move rfl) (al_p (q_move rfl) (al_callS Tryz.call128 (.cons rfl (.cons rfl (.cons rfl .nil))) rfl rfl (fun w2 hs2 => ?_))))
  refine (round_ex _ _ A A2 c c2 _ (hK.below hs2.below) (hI.below hs2.below) hc2 (hs2.newT (.head _) N5)).mono ?_
  rintro e u2 ⟨br, rfl, hb_2⟩
  refine ⟨_, _, _, rfl, hs2.gift hb_2, ?_⟩
  refine al_p (q_move rfl) (al_p (q_extract rfl rfl) (al_p (q_extract rfl rfl) (al_p (q_assign rfl) (al_p (q_assign rfl) ?_))))
  refine al_end (aq_then ?_)
  refine ac_seq (ac_seq (ac_region ?_))
  refine al_p (q_move rfl) (al_p (q_same (v' := .bool false) (q_neq rfl rfl) rfl) (al_end (aq_then ?_)))
  refine ac_condF rfl (ac_skip (aq_then (ac_seq (ac_seq (ac_region ?_)))))
  refine al_p (q_move rfl) (al_p (q_move rfl) (al_call Tryz.call129 (.cons rfl (.cons rfl .nil)) rfl rfl (fun w3 hs3 => ?_)))
  refine (equalI_ex _ _ _ _ _ (isT_box0 (n := 1) (enc := intCells) (fun _ => rfl) (hs3.at 0 rfl) rfl rfl) (hs3.newT (.head _) N5)).mono ?_
  rintro e u3 ⟨rfl, hb_3⟩
  refine ⟨_, rfl, hb_3, ?_⟩
  clear hs3
  refine al_end (aq_then ?_)
  refine ac_condT rfl (ac_seq (ac_region ?_))
  refine al_p (q_move rfl) (al_p (q_move rfl) (al_p (q_assign rfl) (al_p (q_assign rfl) (al_p (q_assign rfl) ?_))))
  refine al_end (aq_then ?_)
  refine ac_ret (aq_thenR (aq_inR (aq_thenR (aq_thenR ?_))))
  refine aq_inR (aq_thenR (retR Tryz.results85 (.tmp rfl (.tmp rfl (.tmp rfl .nil))) .two (fun w9 hs => ?_)))
  exact ⟨_, _, rfl, ⟨hs.newT (.tail _ (.head _)) N5, (fun b o e => Nat.le_trans hz5 (N5.new b o e)), N5.le⟩, hs.below⟩
set_option maxRecDepth 100000 in
theorem grow_ex (X : Option Addr) (cx : Nat) (A A2 : Option Addr) (c c2 : Nat) (w : World) (hK : IsT 1 intCells w A 2 (knL mE cE (ptA mE) 2)) (hI : IsT 1 intCells w A2 2 (itL mE (ptA mE) 2)) (hc2 : 2 ≤ c2) (hX : IsT 2 SpanD.cells w X 1 [⟨8, 9⟩]) : Calls Tryz.prog 132 #[(.agg #[.slice A 2 c, .int .i64 1, .slice A2 2 c2]), (.int .i64 9), (.slice X 1 cx)] w (Ret (.tuple #[.slice X 1 cx, .int .i64 0]) w) := by
  refine calls_ax (vs := [(.agg #[.slice A 2 c, .int .i64 1, .slice A2 2 c2]), (.int .i64 9), (.slice X 1 cx)]) Tryz.func132 rfl rfl ?_
  refine ac_seq (ac_region ?_)
  refine al_new (fun b => .pointer (some ⟨b, 0, none⟩)) (r_box rfl rfl) rfl rfl rfl ?_
  intro b1
  refine al_p (q_assign rfl) (al_p (q_assign rfl) (al_end (aq_then ?_)))
  refine ac_seq (ac_seq (ac_region ?_))
  refine al_p (q_move rfl) (al_end (aq_then ?_))
  refine ac_block (ac_loop1 ?_)
  refine ac_seq (ac_region ?_)
  refine al_p (q_same (v' := .bool true) (q_lss rfl rfl) rfl) (al_end (aq_then ?_))
  refine ac_seq (ac_condT rfl (ac_skip (aq_then (ac_seq ?_))))
  refine ac_block (ac_seq (ac_region ?_))
  refine al_p (q_loadAll (i := 0) rfl rfl Tryz.isAgg97 Tryz.sizeOf97 rfl) (al_p (q_move rfl) (al_p (q_move rfl) (al_call Tryz.call82 (.cons rfl (.cons rfl (.cons rfl .nil))) rfl rfl (fun w1 hs1 => ?_))))
  refine (image_ex A A2 _ c c2 _ ⟨8, 9⟩ _ (hK.below hs1.below) (hI.below hs1.below) hc2 (hX.below hs1.below) (by decide) imE2 imE3).mono ?_
  rintro e u1 ⟨B2, d2, rfl, N2, hb_1⟩
  obtain ⟨b21, o21, hA2, hlt2, hget2⟩ := N2.isT.2 (by decide)
  refine ⟨_, rfl, hb_1, ?_⟩
  clear hs1
  refine al_p (q_move rfl) (al_p (q_extract rfl rfl) (al_p (q_extract rfl rfl) (al_p (q_assign rfl) (al_p (q_assign rfl) ?_))))
  refine al_end (aq_then ?_)
  refine ac_seq (ac_seq (ac_region ?_))
  refine al_p (q_move rfl) (al_p (q_same (v' := .bool false) (q_neq rfl rfl) rfl) (al_end (aq_then ?_)))
  refine ac_condF rfl (ac_skip (aq_then (ac_seq (ac_seq (ac_region ?_)))))
  refine al_p (q_move rfl) (al_p (q_move rfl) (al_call Tryz.call164 (.cons rfl (.cons rfl .nil)) rfl rfl (fun w2 hs2 => ?_)))
  refine (lies_ex _ _ _ _ _ (hs2.newT (.head _) N2) (hX.below hs2.below)).mono ?_
  rintro e u2 ⟨rfl, hb_2⟩
  refine ⟨_, rfl, hb_2, ?_⟩
  clear hs2
  refine al_end (aq_then ?_)
  refine ac_condT rfl (ac_seq (ac_region ?_))
  refine al_p (q_move rfl) (al_p (q_assign rfl) (al_p (q_assign rfl) (al_end (aq_then ?_))))
  refine ac_ret (aq_thenR (aq_inR (aq_thenR (aq_thenR ?_))))
  refine aq_inR (aq_thenR (ret2 Tryz.results132 rfl rfl (fun w9 hs => ?_)))
  exact ⟨rfl, hs.below⟩
set_option maxRecDepth 100000 in
theorem narrow_ex (X : Option Addr) (cx : Nat) (A A2 : Option Addr) (c c2 : Nat) (w : World) (hK : IsT 1 intCells w A 2 (knL mE cE (ptA mE) 2)) (hI : IsT 1 intCells w A2 2 (itL mE (ptA mE) 2)) (hc2 : 2 ≤ c2) (hX : IsT 2 SpanD.cells w X 1 [⟨8, 9⟩]) : Calls Tryz.prog 87 #[(.agg #[.slice A 2 c, .int .i64 1, .slice A2 2 c2]), (.int .i64 9), (.slice X 1 cx), (.int .i64 20)] w (fun e w' => ∃ B d, e = .returned (.tuple #[.slice B 1 d, .int .i64 0]) ∧ NewT 2 SpanD.cells w.heap.size w' B 1 d [⟨9, 9⟩] ∧ Below w.heap.size w w') := by
  refine calls_ax (vs := [(.agg #[.slice A 2 c, .int .i64 1, .slice A2 2 c2]), (.int .i64 9), (.slice X 1 cx), (.int .i64 20)]) Tryz.func87 rfl rfl ?_
  refine ac_seq (ac_region ?_)
  refine al_new (fun b => .pointer (some ⟨b, 0, none⟩)) (r_box rfl rfl) rfl rfl rfl ?_
  intro b1
  refine al_p (q_assign rfl) (al_p (q_assign rfl) (al_end (aq_then ?_)))
  refine ac_seq (ac_region ?_)
  refine al_p (q_move rfl) (al_call Tryz.call56 (.cons rfl .nil) rfl rfl (fun w1 hs1 => ?_))
  refine (cloneSx_any _ 1 _ [⟨8, 9⟩] _ (hX.below hs1.below) (by omega)).mono ?_
  rintro e u1 ⟨B5, d5, rfl, N5, hb_1⟩
  refine ⟨_, rfl, hb_1, ?_⟩
  clear hs1
  refine al_p (q_assign rfl) (al_end (aq_then ?_))
  refine ac_seq (ac_seq (ac_region ?_))
  refine al_p (q_move rfl) (al_p (q_move rfl) (al_end (aq_then ?_)))
  refine ac_block (ac_loop1 ?_)
  refine ac_seq (ac_region ?_)
  refine al_p (q_same (v' := .bool true) (q_lss rfl rfl) rfl) (al_end (aq_then ?_))
  refine ac_seq (ac_condT rfl (ac_skip (aq_then (ac_seq ?_))))
  refine ac_block (ac_seq (ac_region ?_))
  refine al_p (q_loadAll (i := 0) rfl rfl Tryz.isAgg97 Tryz.sizeOf97 rfl) (al_p (q_move rfl) (al_p (q_move rfl) (al_call Tryz.call82 (.cons rfl (.cons rfl (.cons rfl .nil))) rfl rfl (fun w2 hs2 => ?_))))
  refine (image_ex A A2 _ c c2 _ ⟨8, 9⟩ _ (hK.below hs2.below) (hI.below hs2.below) hc2 (hs2.newT (.head _) N5) (by decide) imE2 imE3).mono ?_
  rintro e u2 ⟨B6, d6, rfl, N6, hb_2⟩
  obtain ⟨b61, o61, hA6, hlt6, hget6⟩ := N6.isT.2 (by decide)
  refine ⟨_, rfl, hb_2, ?_⟩
  clear hs2
  refine al_p (q_move rfl) (al_p (q_extract rfl rfl) (al_p (q_extract rfl rfl) (al_p (q_assign rfl) (al_p (q_assign rfl) ?_))))
  refine al_end (aq_then ?_)
  refine ac_seq (ac_seq (ac_region ?_))
  refine al_p (q_move rfl) (al_p (q_same (v' := .bool false) (q_neq rfl rfl) rfl) (al_end (aq_then ?_)))
  refine ac_condF rfl (ac_skip (aq_then (ac_seq (ac_region ?_))))
  refine al_p (q_move rfl) (al_p (q_move rfl) (al_call Tryz.call52 (.cons rfl (.cons rfl (.cons rfl .nil))) rfl rfl (fun w3 hs3 => ?_)))
  have hz8 := hs3.below.size
  refine (combine_ex _ _ _ _ ⟨8, 9⟩ _ (hs3.newT (.tail _ (.head _)) N5) (hs3.newT (.head _) N6) (by kernel_rfl)).mono ?_
  rintro e u3 ⟨B8, d8, rfl, N8, hb_3⟩
  refine ⟨_, rfl, hb_3, ?_⟩
  clear hs3
  refine al_p (q_move rfl) (al_p (q_extract rfl rfl) (al_p (q_extract rfl rfl) (al_p (q_assign rfl) (al_p (q_assign rfl) ?_))))
  refine al_end (aq_then ?_)
  refine ac_seq (ac_seq (ac_region ?_))
  refine al_p (q_move rfl) (al_p (q_same (v' := .bool false) (q_neq rfl rfl) rfl) (al_end (aq_then ?_)))
  refine ac_condF rfl (ac_skip (aq_then (ac_seq (ac_seq (ac_region ?_)))))
  refine al_p (q_move rfl) (al_p (q_move rfl) (al_call Tryz.call133 (.cons rfl (.cons rfl .nil)) rfl rfl (fun w4 hs4 => ?_)))
  refine (equalS_exF _ _ _ _ _ (hs4.newT (.head _) N8) (hs4.newT (.tail _ (.tail _ (.head _))) N5)).mono ?_
  rintro e u4 ⟨rfl, hb_4⟩
  refine ⟨_, rfl, hb_4, ?_⟩
  clear hs4
  refine al_end (aq_then ?_)
  refine ac_condF rfl (ac_skip (aq_then (ac_region (al_p (q_move rfl) ?_))))
  refine al_p (q_assign rfl) (al_end (aq_inN (aq_then (ac_region ?_))))
  refine al_p (q_same (v' := .int .i64 1) (q_add rfl rfl (by omega)) rfl) (al_p (q_move rfl) (al_end (aq_then (aq_again ?_))))
  refine ac_seq (ac_region ?_)
  refine al_p (q_same (v' := .bool true) (q_lss rfl rfl) rfl) (al_end (aq_then ?_))
  refine ac_seq (ac_condT rfl (ac_skip (aq_then (ac_seq ?_))))
  refine ac_block (ac_seq (ac_region ?_))
  refine al_p (q_loadAll (i := 0) rfl rfl Tryz.isAgg97 Tryz.sizeOf97 rfl) (al_p (q_move rfl) (al_p (q_move rfl) (al_call Tryz.call82 (.cons rfl (.cons rfl (.cons rfl .nil))) rfl rfl (fun w5 hs5 => ?_))))
  refine (image_ex A A2 _ c c2 _ ⟨9, 9⟩ _ (hK.below hs5.below) (hI.below hs5.below) hc2 (hs5.newT (.tail _ (.head _)) N8) (by decide) imE0 imE1).mono ?_
  rintro e u5 ⟨B7, d7, rfl, N7, hb_5⟩
  obtain ⟨b71, o71, hA7, hlt7, hget7⟩ := N7.isT.2 (by decide)
  refine ⟨_, rfl, hb_5, ?_⟩
  clear hs5
  refine al_p (q_move rfl) (al_p (q_extract rfl rfl) (al_p (q_extract rfl rfl) (al_p (q_assign rfl) (al_p (q_assign rfl) ?_))))
  refine al_end (aq_then ?_)
  refine ac_seq (ac_seq (ac_region ?_))
  refine al_p (q_move rfl) (al_p (q_same (v' := .bool false) (q_neq rfl rfl) rfl) (al_end (aq_then ?_)))
  refine ac_condF rfl (ac_skip (aq_then (ac_seq (ac_region ?_))))
  refine al_p (q_move rfl) (al_p (q_move rfl) (al_call Tryz.call52 (.cons rfl (.cons rfl (.cons rfl .nil))) rfl rfl (fun w6 hs6 => ?_)))
  have hz9 := hs6.below.size
  refine (combine_ex _ _ _ _ ⟨9, 9⟩ _ (hs6.newT (.tail _ (.tail _ (.head _))) N8) (hs6.newT (.head _) N7) (by kernel_rfl)).mono ?_
  rintro e u6 ⟨B9, d9, rfl, N9, hb_6⟩
  refine ⟨_, rfl, hb_6, ?_⟩
  clear hs6
  refine al_p (q_move rfl) (al_p (q_extract rfl rfl) (al_p (q_extract rfl rfl) (al_p (q_assign rfl) (al_p (q_assign rfl) ?_))))
  refine al_end (aq_then ?_)
  refine ac_seq (ac_seq (ac_region ?_))
  refine al_p (q_move rfl) (al_p (q_same (v' := .bool false) (q_neq rfl rfl) rfl) (al_end (aq_then ?_)))
  refine ac_condF rfl (ac_skip (aq_then (ac_seq (ac_seq (ac_region ?_)))))
  refine al_p (q_move rfl) (al_p (q_move rfl) (al_call Tryz.call133 (.cons rfl (.cons rfl .nil)) rfl rfl (fun w7 hs7 => ?_)))
  refine (equalS_exT _ _ _ _ _ (hs7.newT (.head _) N9) (hs7.newT (.tail _ (.tail _ (.tail _ (.head _)))) N8)).mono ?_
  rintro e u7 ⟨rfl, hb_7⟩
  refine ⟨_, rfl, hb_7, ?_⟩
  clear hs7
  refine al_end (aq_then ?_)
  refine ac_condT rfl (ac_exit (aq_thenE (aq_miss rfl (aq_thenE ?_))))
  refine aq_thenE (aq_hit (aq_then (ac_seq (ac_region ?_))))
  refine al_p (q_move rfl) (al_p (q_assign rfl) (al_p (q_assign rfl) (al_end (aq_then ?_))))
  refine ac_ret (ret2 Tryz.results87 rfl rfl (fun w9 hs => ?_))
  exact ⟨_, _, rfl, ⟨hs.newT (.tail _ (.tail _ (.tail _ (.tail _ (.head _))))) N8, (fun b o e => Nat.le_trans hz8 (N8.new b o e)), N8.le⟩, hs.below⟩
theorem valid_ex (xl xp : Nat) (w : World) (hM : IsM w (rE xl) mE) (hC : IsC w (qE xp) cE) : Calls Tryz.prog 42 #[.agg (mCs (rE xl) mE).toArray, .agg (cCs (qE xp)).toArray] w (Ret (.bool true) w) := by
  have h := pvalid_any (rE xl) mE (qE xp) cE w hM hC
  rwa [valE] at h
theorem chk_ex (w : World) : Calls Tryz.prog 50 #[.bool true, .bool true] w (Ret (.int .i64 0) w) := chk5_any true true w
theorem fieldOf_ex (xl xp : Nat) (w : World) (hM : IsM w (rE xl) mE) (hC : IsC w (qE xp) cE) : Calls Tryz.prog 60 #[.agg (mCs (rE xl) mE).toArray, .agg (cCs (qE xp)).toArray] w (fun e w' => ∃ A c A2 c2, e = .returned (.agg #[.slice A 2 c, .int .i64 1, .slice A2 2 c2]) ∧ NewT 1 intCells w.heap.size w' A 2 c (knL mE cE (ptA mE) 2) ∧ NewT 1 intCells w.heap.size w' A2 2 c2 (itL mE (ptA mE) 2) ∧ Below w.heap.size w w') := by
  refine (fieldOf_any (rE xl) mE (qE xp) cE w hM hC fitE).mono ?_
  rintro e w' ⟨A, c, A2, c2, rfl, h1, h2, hb⟩
  exact ⟨A, c, A2, c2, rfl, h1, h2, hb⟩
set_option maxRecDepth 100000 in
theorem find_ex (xl xp : Nat) (w : World) (hM : IsM w (rE xl) mE) (hC : IsC w (qE xp) cE) : Calls Tryz.prog 41 #[(.agg (mCs (rE xl) mE).toArray), (.agg (cCs (qE xp)).toArray), (.int .i64 9)] w (fun e w' => ∃ B d, e = .returned (.tuple #[.slice B 1 d, .int .i64 0]) ∧ NewT 2 SpanD.cells w.heap.size w' B 1 d [⟨9, 9⟩] ∧ Below w.heap.size w w') := by
  refine calls_ax (vs := [(.agg (mCs (rE xl) mE).toArray), (.agg (cCs (qE xp)).toArray), (.int .i64 9)]) Tryz.func41 rfl rfl ?_
  refine ac_seq (ac_region ?_)
  refine al_new (fun b => .pointer (some ⟨b, 0, none⟩)) (r_box rfl rfl) rfl rfl rfl ?_
  intro b1
  refine al_new (fun b => .pointer (some ⟨b, 0, none⟩)) (r_box rfl rfl) rfl rfl rfl ?_
  intro b2
  refine al_p (q_assign rfl) (al_p (q_assign rfl) (al_end (aq_then ?_)))
  refine ac_seq (ac_seq (ac_region ?_))
  refine al_p (q_loadAll (i := 1) rfl rfl Tryz.isAgg29 Tryz.sizeOf29 rfl) (al_p (q_loadAll (i := 0) rfl rfl Tryz.isAgg32 Tryz.sizeOf32 rfl) (al_call Tryz.call42 (.cons rfl (.cons rfl .nil)) rfl rfl (fun w1 hs1 => ?_)))
  refine (valid_ex xl xp _ (hM.below hs1.below) (hC.below hs1.below)).mono ?_
  rintro e u1 ⟨rfl, hb_1⟩
  refine ⟨_, rfl, hb_1, ?_⟩
  clear hs1
  refine al_p (q_move rfl) (al_call Tryz.call47 (.cons rfl .nil) rfl rfl (fun w2 hs2 => ?_))
  refine (tot_yes 9 _ (by omega) (by omega)).mono ?_
  rintro e u2 ⟨rfl, hb_2⟩
  refine ⟨_, rfl, hb_2, ?_⟩
  clear hs2
  refine al_call Tryz.call50 (.cons rfl (.cons rfl .nil)) rfl rfl (fun w3 hs3 => ?_)
  refine (chk_ex _).mono ?_
  rintro e u3 ⟨rfl, hb_3⟩
  refine ⟨_, rfl, hb_3, ?_⟩
  clear hs3
  refine al_p (q_assign rfl) (al_end (aq_then ?_))
  refine ac_seq (ac_region ?_)
  refine al_p (q_move rfl) (al_p (q_same (v' := .bool false) (q_neq rfl rfl) rfl) (al_end (aq_then ?_)))
  refine ac_condF rfl (ac_skip (aq_then (ac_seq (ac_region ?_))))
  refine al_p (q_loadAll (i := 1) rfl rfl Tryz.isAgg29 Tryz.sizeOf29 rfl) (al_p (q_loadAll (i := 0) rfl rfl Tryz.isAgg32 Tryz.sizeOf32 rfl) (al_call Tryz.call60 (.cons rfl (.cons rfl .nil)) rfl rfl (fun w4 hs4 => ?_)))
  refine (fieldOf_ex xl xp _ (hM.below hs4.below) (hC.below hs4.below)).mono ?_
  rintro e u4 ⟨A, c, A2, c2, rfl, NK, NI, hb_4⟩
  have hc2 := NI.le.1
  refine ⟨_, rfl, hb_4, ?_⟩
  clear hs4
  refine al_new (fun b => .pointer (some ⟨b, 0, none⟩)) (r_alloc Tryz.zeroValue97 rfl) rfl rfl rfl ?_
  intro b3
  refine al_storeAll (i := 0) rfl rfl rfl rfl Tryz.sizeOf97 rfl rfl .k0 rfl (al_end (aq_then ?_))
  refine ac_seq (ac_draw 14 (by kernel_rfl) (by kernel_rfl) ?_)
  refine ah_t 0 (fun w9 hs => hs) rfl rfl (by kernel_rfl) (q_loadAll (i := 0) rfl rfl Tryz.isAgg97 Tryz.sizeOf97 rfl) (ah_t 1 (fun w9 hs => hs) rfl rfl (by kernel_rfl) (q_move rfl) ?_)
  refine ah_t 2 (fun w9 hs => hs) rfl rfl (by kernel_rfl) (q_fieldAddr 2 rfl Tryz.runUnderlying32 rfl Tryz.sizeOf30 (by decide) rfl) (ah_t 3 (fun w9 hs => hs) rfl rfl (by kernel_rfl) (q_load (i := 1) rfl rfl rfl Tryz.isAgg30) (ah_t 4 (fun w9 hs => hs) rfl rfl (by kernel_rfl) (q_same (v' := .int .i64 1) (q_lenS rfl Tryz.runUnderlying30) rfl) (ah_t 5 (fun w9 hs => hs) rfl rfl (by kernel_rfl) (q_move rfl) (ah_one 6 rfl (by kernel_rfl) (fun hok1 hcl1 => ?_)))))
  refine al_call Tryz.call14 (.cons rfl (.cons rfl .nil)) rfl rfl (fun w5 hs5 => ?_)
  refine (even_ex _).mono ?_
  rintro e u5 ⟨B1, d1, rfl, N1, hb_5⟩
  refine ⟨_, rfl, hb_5, ?_⟩
  clear hs5
  refine al_end (ah_back hok1 hcl1 (fun w9 hs => (hs.fewer 1 rfl)) ?_)
  refine ah_one 7 rfl (by kernel_rfl) (fun hok2 hcl2 => ?_)
  refine al_call Tryz.call85 (.cons rfl (.cons rfl (.cons rfl (.cons rfl .nil)))) rfl rfl (fun w6 hs6 => ?_)
  refine (iterate_ex _ _ A A2 c c2 _ (hs6.newT (.tail _ (.head _)) NK) (hs6.newT (.tail _ (.head _)) NI) hc2 (hs6.newT (.head _) N1)).mono ?_
  rintro e u6 ⟨B2, d2, rfl, N2, hb_6⟩
  refine ⟨_, rfl, hb_6, ?_⟩
  clear hs6
  refine al_end (ah_back hok2 hcl2 (fun w9 hs => (hs.fewer 2 rfl)) ?_)
  refine ah_t 8 (fun w9 hs => (hs.fewer 2 rfl)) rfl rfl (by kernel_rfl) (q_move rfl) (ah_t 9 (fun w9 hs => (hs.fewer 2 rfl)) rfl rfl (by kernel_rfl) (q_extract rfl rfl) (ah_t 10 (fun w9 hs => (hs.fewer 2 rfl)) rfl rfl (by kernel_rfl) (q_extract rfl rfl) (ah_t 11 (fun w9 hs => (hs.fewer 2 rfl)) rfl rfl (by kernel_rfl) (q_extract rfl rfl) (ah_one 12 rfl (by kernel_rfl) (fun hok3 hcl3 => ?_)))))
  refine al_p (q_assign rfl) (al_end (ah_back hok3 hcl3 (fun w9 hs => (hs.fewer 2 rfl)) ?_))
  refine ah_one 13 rfl (by kernel_rfl) (fun hok4 hcl4 => ?_)
  refine al_p (q_assign rfl) (al_end (ah_back hok4 hcl4 (fun w9 hs => (hs.fewer 2 rfl)) ?_))
  refine ah_one 14 rfl (by kernel_rfl) (fun hok5 hcl5 => ?_)
  refine al_p (q_assign rfl) (al_end (ah_last (by kernel_rfl) ?_))
  refine aq_then (ac_seq (ac_seq (ac_region ?_)))
  refine al_p (q_move rfl) (al_p (q_same (v' := .bool false) (q_neq rfl rfl) rfl) (al_end (aq_then ?_)))
  refine ac_condF rfl (ac_skip (aq_then (ac_seq (ac_region ?_))))
  refine al_p (q_loadAll (i := 0) rfl rfl Tryz.isAgg97 Tryz.sizeOf97 rfl) (al_p (q_move rfl) (al_p (q_move rfl) (al_inl Tryz.call86 (.cons rfl (.cons rfl (.cons rfl .nil))) rfl rfl Tryz.func86 rfl rfl ?_)))
  refine ac_seq (ac_region ?_)
  refine al_new (fun b => .pointer (some ⟨b, 0, none⟩)) (r_box rfl rfl) rfl rfl rfl ?_
  intro b4
  refine al_new (fun b => .pointer (some ⟨b, 0, none⟩)) (r_box rfl rfl) rfl rfl rfl ?_
  intro b5
  refine al_new (fun b => .pointer (some ⟨b, 0, none⟩)) (r_box rfl rfl) rfl rfl rfl ?_
  intro b6
  refine al_p (q_assign rfl) (al_end (aq_then ?_))
  refine ac_seq (ac_region ?_)
  refine al_new (fun b => .pointer (some ⟨b, 0, none⟩)) (r_alloc Tryz.zeroValue3 rfl) rfl rfl rfl ?_
  intro b7
  refine al_store1 (i := 0) rfl rfl rfl rfl Tryz.sizeOf3 .k0 .k0 rfl (al_end (aq_then ?_))
  refine ac_seq (ac_region ?_)
  refine al_p (q_makeFunc _ _ .nil (.cons rfl (.cons rfl (.cons rfl (.cons rfl .nil))))) (al_p (q_assign rfl) (al_end (aq_then ?_)))
  refine ac_ret (retI Tryz.results86 (.tmp rfl .nil) .one ?_)
  refine al_p (q_assign rfl) (al_end (aq_then ?_))
  refine ac_seq (ac_seq (ac_region ?_))
  refine al_p (q_move rfl) (al_end (aq_then ?_))
  refine ac_block (ac_loop1 ?_)
  refine ac_seq (ac_region ?_)
  refine al_p (q_same (v' := .bool true) (q_lss rfl rfl) rfl) (al_end (aq_then ?_))
  refine ac_seq (ac_condT rfl (ac_skip (aq_then (ac_seq ?_))))
  refine ac_block (ac_seq (ac_region ?_))
  refine al_p (q_move rfl) (al_inlV (fi := []) (ca := [(.pointer (some ⟨b6, 0, none⟩)), (.pointer (some ⟨b7, 0, none⟩)), (.pointer (some ⟨b5, 0, none⟩)), (.pointer (some ⟨b4, 0, none⟩))]) rfl Tryz.call130 .nil rfl rfl Tryz.func130 rfl rfl ?_)
  refine ac_seq (ac_region ?_)
  refine al_p (q_assign rfl) (al_p (q_assign rfl) (al_end (aq_then ?_)))
  refine ac_seq (ac_region ?_)
  refine al_p (q_load (i := 1) rfl rfl rfl Tryz.isAgg30) (al_p (q_load (i := 0) rfl rfl rfl Tryz.isAgg3) (al_p (q_load (i := 2) rfl rfl rfl Tryz.isAgg3) (al_call Tryz.call131 (.cons rfl (.cons rfl (.cons rfl .nil))) rfl rfl (fun w7 hs7 => ?_))))
  refine (around_ex _ _ _ (hs7.newT (.head _) N2)).mono ?_
  rintro e u7 ⟨B3, d3, rfl, N3, hb_7⟩
  refine ⟨_, rfl, hb_7, ?_⟩
  clear hs7
  refine al_p (q_assign rfl) (al_end (aq_then ?_))
  refine ac_seq (ac_region ?_)
  refine al_p (q_load (i := 0) rfl rfl rfl Tryz.isAgg3) ?_
  refine al_p (q_same (v' := .int .i64 2) (q_mul rfl rfl (by omega)) rfl) (al_store1 (i := 0) rfl rfl rfl rfl Tryz.sizeOf3 .k0 .k0 rfl (al_end (aq_then ?_)))
  refine ac_seq (ac_region ?_)
  refine al_p (q_loadAll (i := 3) rfl rfl Tryz.isAgg97 Tryz.sizeOf97 rfl) (al_p (q_load (i := 2) rfl rfl rfl Tryz.isAgg3) (al_p (q_move rfl) (al_call Tryz.call132 (.cons rfl (.cons rfl (.cons rfl .nil))) rfl rfl (fun w8 hs8 => ?_))))
  refine (grow_ex _ _ A A2 c c2 _ (hs8.newT (.tail _ (.tail _ (.tail _ (.head _)))) NK) (hs8.newT (.tail _ (.tail _ (.tail _ (.head _)))) NI) hc2 (hs8.newT (.head _) N3)).mono ?_
  rintro e u8 ⟨rfl, hb_8⟩
  refine ⟨_, rfl, hb_8, ?_⟩
  clear hs8
  refine al_p (q_extract rfl rfl) (al_p (q_extract rfl rfl) (al_p (q_assign rfl) (al_p (q_assign rfl) (al_end (aq_then ?_)))))
  refine ac_ret (retI Tryz.results130 (.tmp rfl (.tmp rfl .nil)) .two ?_)
  refine al_p (q_move rfl) (al_p (q_extract rfl rfl) (al_p (q_extract rfl rfl) (al_p (q_assign rfl) (al_p (q_assign rfl) ?_))))
  refine al_end (aq_then ?_)
  refine ac_seq (ac_region ?_)
  refine al_p (q_move rfl) (al_p (q_same (v' := .bool true) (q_eql rfl rfl) rfl) (al_end (aq_then ?_)))
  refine ac_condT rfl (ac_seq (ac_region ?_))
  refine al_p (q_loadAll (i := 4) rfl rfl Tryz.isAgg97 Tryz.sizeOf97 rfl) (al_p (q_move rfl) (al_p (q_move rfl) (al_call Tryz.call87 (.cons rfl (.cons rfl (.cons rfl (.cons rfl .nil)))) rfl rfl (fun w9 hs9 => ?_))))
  have hz4 := hs9.below.size
  refine (narrow_ex _ _ A A2 c c2 _ (hs9.newT (.tail _ (.tail _ (.tail _ (.tail _ (.head _))))) NK) (hs9.newT (.tail _ (.tail _ (.tail _ (.tail _ (.head _))))) NI) hc2 (hs9.newT (.tail _ (.head _)) N3)).mono ?_
  rintro e u9 ⟨B4, d4, rfl, N4, hb_9⟩
  refine ⟨_, rfl, hb_9, ?_⟩
  clear hs9
  refine al_p (q_extract rfl rfl) (al_p (q_extract rfl rfl) (al_p (q_assign rfl) (al_p (q_assign rfl) (al_end (aq_then ?_)))))
  refine ac_ret (aq_inR (aq_thenR (aq_thenR (aq_inR ?_))))
  refine aq_thenR (ret2 Tryz.results41 rfl rfl (fun w9 hs => ?_))
  exact ⟨_, _, rfl, ⟨hs.newT (.head _) N4, (fun b o e => Nat.le_trans hz4 (N4.new b o e)), N4.le⟩, hs.below⟩
theorem eqa_bl_apiPoint_0_ (a0 : Value) (ha0 : a0.oneCell' = true) : ∀ w, (Instr.build 36 #[(0, a0)]).run Tryz.prog w = .ok (.agg #[a0, (.int .i64 0)]) w := by
  have ea0 : a0.cells = #[a0] := cells_one ha0
  intro w; simp [Instr.build, Instr.fill, cells_agg, Tryz.runUnderlying36, Tryz.zeroValue36, Tryz.sizeOf3, ea0]
theorem eqa_bs_apiPoint_1_0_ (c0_0 c0_1 : Value) : ∀ w, (Instr.buildSlice 24 1 #[(0, .agg #[c0_0, c0_1])]).run Tryz.prog w = .ok (.slice (some ⟨w.heap.size, 0, none⟩) 1 1) (w.alloc (.cells [c0_0, c0_1].toArray 36)) := by
  intro w; (simp [Instr.buildSlice, Instr.fill, cells_agg, newRow, Tryz.runUnderlying24, Tryz.zeroValue36, Tryz.sizeOf36] <;> (rw [(by kernel_rfl : Array.range 2 = #[0, 1])]; simp [Value.cells]))
theorem eqa_bl_apiGrid_2_3_4 (a0 a1 a2 : Value) (ha0 : a0.oneCell' = true) (ha1 : a1.oneCell' = true) (ha2 : a2.oneCell' = true) : ∀ w, (Instr.build 26 #[(2, a0), (3, a1), (4, a2)]).run Tryz.prog w = .ok (.agg #[(.int .i64 0), (.int .i64 0), a0, a1, a2]) w := by
  have ea0 : a0.cells = #[a0] := cells_one ha0
  have ea1 : a1.cells = #[a1] := cells_one ha1
  have ea2 : a2.cells = #[a2] := cells_one ha2
  intro w; simp [Instr.build, Instr.fill, cells_agg, Tryz.runUnderlying26, Tryz.zeroValue26, Tryz.sizeOf3, ea0, ea1, ea2]
theorem eqa_bl_apiMachine_0_3_4 (a0 a1 c2_0 c2_1 c2_2 c2_3 c2_4 : Value) (ha0 : a0.oneCell' = true) (ha1 : a1.oneCell' = true) : ∀ w, (Instr.build 29 #[(0, a0), (3, a1), (4, .agg #[c2_0, c2_1, c2_2, c2_3, c2_4])]).run Tryz.prog w = .ok (.agg #[a0, (.slice none 0 0), (.slice none 0 0), a1, c2_0, c2_1, c2_2, c2_3, c2_4, (.slice none 0 0)]) w := by
  have ea0 : a0.cells = #[a0] := cells_one ha0
  have ea1 : a1.cells = #[a1] := cells_one ha1
  intro w; simp [Instr.build, Instr.fill, cells_agg, Tryz.runUnderlying29, Tryz.zeroValue29, Tryz.sizeOf9, Tryz.sizeOf22, Tryz.sizeOf23, Tryz.sizeOf24, Tryz.sizeOf26, Tryz.sizeOf27, ea0, ea1]
theorem eqa_bs_int_1_0_ (a0 : Value) (ha0 : a0.oneCell' = true) : ∀ w, (Instr.buildSlice 30 1 #[(0, a0)]).run Tryz.prog w = .ok (.slice (some ⟨w.heap.size, 0, none⟩) 1 1) (w.alloc (.cells [a0].toArray 3)) := by
  have ea0 : a0.cells = #[a0] := cells_one ha0
  intro w; (simp [Instr.buildSlice, Instr.fill, cells_agg, newRow, Tryz.runUnderlying30, Tryz.zeroValue3, Tryz.sizeOf3, ea0] <;> (rw [(by kernel_rfl : Array.range 1 = #[0])]; simp [Value.cells]))
theorem eqa_bl_apiCurrents_2_ (a0 : Value) (ha0 : a0.oneCell' = true) : ∀ w, (Instr.build 32 #[(2, a0)]).run Tryz.prog w = .ok (.agg #[(.slice none 0 0), (.slice none 0 0), a0]) w := by
  have ea0 : a0.cells = #[a0] := cells_one ha0
  intro w; simp [Instr.build, Instr.fill, cells_agg, Tryz.runUnderlying32, Tryz.zeroValue32, Tryz.sizeOf30, ea0]
theorem eqa_bl_apiSpan_0_1 (a0 a1 : Value) (ha0 : a0.oneCell' = true) (ha1 : a1.oneCell' = true) : ∀ w, (Instr.build 52 #[(0, a0), (1, a1)]).run Tryz.prog w = .ok (.agg #[a0, a1]) w := by
  have ea0 : a0.cells = #[a0] := cells_one ha0
  have ea1 : a1.cells = #[a1] := cells_one ha1
  intro w; simp [Instr.build, Instr.fill, cells_agg, Tryz.runUnderlying52, Tryz.zeroValue52, Tryz.sizeOf3, ea0, ea1]
set_option maxRecDepth 100000 in
theorem eqa_eq_eql_apiSpan (a0 b0 : Int) (a1 b1 : Int) : ∀ w, (binOp .eql 52 (.agg #[.int .i64 a0, .int .i64 a1]) (.agg #[.int .i64 b0, .int .i64 b1])).run Tryz.prog w = .ok (.bool (decide (a0 = b0 ∧ a1 = b1))) w := by
  intro w
  have e : binOp .eql 52 (.agg #[.int .i64 a0, .int .i64 a1]) (.agg #[.int .i64 b0, .int .i64 b1]) = (do pure (.bool (← Op.equal 52 (.agg #[.int .i64 a0, .int .i64 a1]) (.agg #[.int .i64 b0, .int .i64 b1]))) : Sem Value) := rfl
  have h : ∀ w, (Op.equal 52 (.agg #[.int .i64 a0, .int .i64 a1]) (.agg #[.int .i64 b0, .int .i64 b1])).run Tryz.prog w = .ok (decide (a0 = b0 ∧ a1 = b1)) w := by
    intro w
    show (Op.equalIn 10000 52 _ _).run _ w = _
    rw [run_equalIn_struct w 9999 52 _ _ (by kernel_rfl) (by kernel_rfl)]
    simp [Program.fieldsOf, Tryz.underlying52, Op.eqFields, go_sem, Tryz.underlying3, Tryz.isAgg3, Tryz.sizeOf3, str_eq]
    by_cases h0 : a0 = b0 <;> by_cases h1 : a1 = b1 <;> simp [h0, h1]
  rw [e]; simp [h]
set_option maxRecDepth 100000 in
theorem awake5_any (w : World) : Calls Tryz.prog 10 #[] w (Ret (.bool true) w) := by
  refine calls_ax (vs := []) Tryz.func10 rfl rfl ?_
  refine ac_seq (ac_region ?_)
  refine al_p (q_assign rfl) (al_end (aq_then ?_))
  refine ac_seq (ac_region ?_)
  refine al_p (q_build (.cons rfl .nil) (eqa_bl_apiPoint_0_ _ rfl)) (al_new (fun b => .slice (some ⟨b, 0, none⟩) 1 1) (r_buildSlice (.cons rfl .nil) (eqa_bs_apiPoint_1_0_ _ _)) rfl rfl rfl ?_)
  intro b1
  refine al_p (q_build (.cons rfl (.cons rfl (.cons rfl .nil))) (eqa_bl_apiGrid_2_3_4 _ _ _ rfl rfl rfl)) (al_p (q_build (.cons rfl (.cons rfl (.cons rfl .nil))) (eqa_bl_apiMachine_0_3_4 _ _ _ _ _ _ _ rfl rfl)) (al_new (fun b => .pointer (some ⟨b, 0, none⟩)) (r_alloc Tryz.zeroValue29 rfl) rfl rfl rfl ?_))
  intro b2
  refine al_storeAll (i := 0) rfl rfl rfl rfl Tryz.sizeOf29 rfl rfl .k0 rfl (al_end (aq_then ?_))
  refine ac_seq (ac_region ?_)
  refine al_p (q_loadAll (i := 0) rfl rfl Tryz.isAgg29 Tryz.sizeOf29 rfl) (al_new (fun b => .slice (some ⟨b, 0, none⟩) 1 1) (r_buildSlice (.cons rfl .nil) (eqa_bs_int_1_0_ _ rfl)) rfl rfl rfl ?_)
  intro b3
  refine al_p (q_build (.cons rfl .nil) (eqa_bl_apiCurrents_2_ _ rfl)) (al_call Tryz.call41 (.cons rfl (.cons rfl (.cons rfl .nil))) rfl rfl (fun w1 hs1 => ?_))
  refine (find_ex b1 b3 _ (ismE (hs1.at 2 rfl)) (iscE (hs1.at 0 rfl))).mono ?_
  rintro e u1 ⟨B4, d4, rfl, N4, hb_1⟩
  obtain ⟨b41, o41, hA4, hlt4, hget4⟩ := N4.isT.2 (by decide)
  refine ⟨_, rfl, hb_1, ?_⟩
  clear hs1
  refine al_p (q_move rfl) (al_p (q_extract rfl rfl) (al_p (q_extract rfl rfl) (al_p (q_assign rfl) (al_p (q_assign rfl) ?_))))
  refine al_end (aq_then ?_)
  refine ac_seq (ac_region ?_)
  refine al_p (q_move rfl) (al_p (q_same (v' := .bool true) (q_eql rfl rfl) rfl) (al_p (q_move rfl) (al_p (q_move rfl) (al_p (q_same (v' := .int .i64 1) (q_lenS rfl Tryz.runUnderlying45) rfl) ?_))))
  refine al_p (q_same (v' := .bool true) (q_eql rfl rfl) rfl) (al_p (q_pickT rfl rfl) (al_p (q_move rfl) (al_p (q_move rfl) ?_)))
  refine al_p (q_indexAddrA (i := 0) (o41 + 0 * 2 + 0) hA4 rfl rfl rfl (by omega) Tryz.runUnderlying45 Tryz.sizeOf52 rfl) (al_p (q_loadXs [.int .i64 9, .int .i64 9] rfl Tryz.isAgg52 Tryz.sizeOf52 (fun w9 hs j9 v9 h9 => by rw [addr_add]; exact (cell_blkx ((hs.snap _ _ (.head _)).2.2.2.1 b41 (N4.new _ _ hA4) hlt4)).trans ((hget4 0 _ rfl) j9 v9 h9)) rfl) (al_p (q_build (.cons rfl (.cons rfl .nil)) (eqa_bl_apiSpan_0_1 _ _ rfl rfl)) ?_))
  refine al_p (q_same (v' := .bool true) (q_cmpS rfl rfl (by kernel_rfl) (eqa_eq_eql_apiSpan _ _ _ _)) (by rfl)) (al_p (q_pickT rfl rfl) (al_p (q_assign rfl) (al_end (aq_then ?_))))
  refine ac_ret (ret1 Tryz.results10 rfl (fun w9 hs => ?_))
  exact ⟨rfl, hs.below⟩
end
end Go.Proofs.YtogcjgjhmlifgaaGreat
