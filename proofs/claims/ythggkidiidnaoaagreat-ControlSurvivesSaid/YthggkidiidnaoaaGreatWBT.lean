import Derived.Test.YthggkidiidnaoaaGreatWAA
import Derived.Test.YthggkidiidnaoaaGreatWAV
import Derived.Test.YthggkidiidnaoaaGreatWAW
import Derived.Test.YthggkidiidnaoaaGreatWAY
import Derived.Test.YthggkidiidnaoaaGreatWAZ
import Derived.Test.YthggkidiidnaoaaGreatWBA
import Derived.Test.YthggkidiidnaoaaGreatWBO
import Derived.Test.YthggkidiidnaoaaGreatWBQ
import Derived.Test.YthggkidiidnaoaaGreatWBS
import Derived.Test.YthggkidiidnaoaaGreatRows
import Derived.KernelRfl
import Derived.Laws.StructEq
namespace Go.Proofs.YthggkidiidnaoaaGreat
set_option linter.unusedVariables false
set_option linter.unusedSimpArgs false
section
open Go.RowKit
abbrev cx7 : CoilD := ⟨⟨#[97]⟩, 5, 0, 1, 9000, 1000, 1000000, 0⟩
abbrev gx7 : GainD := ⟨2000, 0, 0, 0⟩
abbrev mx7 : MachD := ⟨⟨#[109]⟩, [cx7], [], [⟨9, 0⟩], ⟨0, 0, 1, 1, 1⟩, []⟩
theorem sub_ex1 (w : World) : Calls Tryz.prog 32 #[Sp 5000 5000, Sp 4200 4700] w (Ret (.tuple #[Sp 300 800, .int .i64 0]) w) := sub9_any 5000 5000 4200 4700 w de9 de9 de9
theorem sub_ex2 (w : World) : Calls Tryz.prog 32 #[Sp 0 0, Sp 0 0] w (Ret (.tuple #[Sp 0 0, .int .i64 0]) w) := sub9_any 0 0 0 0 w de9 de9 de9
theorem goal_ex (w : World) : Calls Tryz.prog 30 #[.agg #[.int .i64 5000, .int .i64 0]] w (Ret (.bool true) w) := goal_any 5000 0 w
theorem mem_ex (w : World) : Calls Tryz.prog 33 #[.agg #[.int .i64 0, .int .i64 0]] w (Ret (.bool true) w) := mem_any 0 0 w
theorem shape_ex (w : World) : Calls Tryz.prog 31 #[(.agg #[.int .i64 4200, .int .i64 4700, .int .i64 0, .int .i64 0, .int .i64 0, .int .i64 0, .int .i64 0, .int .i64 0, .int .i64 0, .int .i64 0, .int .i64 0, .int .i64 0, .int .i64 0, .int .i64 0, .int .i64 0, .int .i64 0])] w (Ret (.bool true) w) := validShape_any ⟨4200, 4700, 0, 0, 0, 0, 0, 0, 0, 0, 0, 0, 0, 0, 0, 0⟩ w
theorem prov_ex1 (w : World) : Calls Tryz.prog 65 #[Sp 300 800] w (Ret (.int .i64 300) w) := proved_any 300 800 w
theorem prov_ex2 (w : World) : Calls Tryz.prog 65 #[Sp 0 0] w (Ret (.int .i64 0) w) := proved_any 0 0 w
theorem cut_ex (w : World) : Calls Tryz.prog 35 #[.int .i64 600, .int .i64 1000] w (fun e w' => e = .returned (.int .i64 600) ∧ w = w') := cut_any 600 1000 w de9 de9
theorem answer_ex (b1 b2 : Nat) (w : World) (h1 : IsT 1 intCells w (some ⟨b1, 0, none⟩) 4 [2000, 0, 0, 0]) (h2 : IsT 1 intCells w (some ⟨b2, 0, none⟩) 4 [300, 0, 0, 0]) : Calls Tryz.prog 36 #[.slice (some ⟨b1, 0, none⟩) 4 4, .slice (some ⟨b2, 0, none⟩) 4 4] w (Ret (.int .i64 600) w) := answer4 b1 b2 2000 0 0 0 300 0 0 0 w h1 h2 de9 de9
theorem ism_ex (xa xc : Nat) (w : World) (h1 : IsT 8 CoilD.cells w (some ⟨xa, 0, none⟩) 1 [cx7]) (h2 : IsT 2 PointD.cells w (some ⟨xc, 0, none⟩) 1 [⟨9, 0⟩]) : IsM w ⟨some ⟨xa, 0, none⟩, none, some ⟨xc, 0, none⟩, none, 1, 1, 0, 0, 1, 1, 0, 0⟩ mx7 := ⟨h1, IsT.nil _ _ _ _, h2, IsT.nil _ _ _ _, by simp, by simp, by simp, by simp, by simp, by simp, by simp, by simp, by simp, by simp, by simp, by simp⟩
theorem check_ex (xa xc : Nat) (w : World) (hM : IsM w ⟨some ⟨xa, 0, none⟩, none, some ⟨xc, 0, none⟩, none, 1, 1, 0, 0, 1, 1, 0, 0⟩ mx7) : Calls Tryz.prog 38 #[(.agg #[.string ⟨#[109]⟩, .slice (some ⟨xa, 0, none⟩) 1 1, .slice none 0 0, .slice (some ⟨xc, 0, none⟩) 1 1, .int .i64 0, .int .i64 0, .int .i64 1, .int .i64 1, .int .i64 1, .slice none 0 0])] w (Ret (.int .i64 0) w) := check_any ⟨some ⟨xa, 0, none⟩, none, some ⟨xc, 0, none⟩, none, 1, 1, 0, 0, 1, 1, 0, 0⟩ mx7 w hM
theorem strong_ex (xg : Nat) (w : World) (hG : IsT 4 GainD.cells w (some ⟨xg, 0, none⟩) 1 [gx7]) : Calls Tryz.prog 39 #[.slice (some ⟨xg, 0, none⟩) 1 1, .func (.func 40) #[] #[]] w (Ret (.bool false) w) := containsGain0 40 strongB (some ⟨xg, 0, none⟩) 1 1 [gx7] w hG de9 (fun args W => enters_of Tryz.func40 kr9 rfl args W) (fun x W' _ _ => tooStrong_any x W')
theorem cwithin_ex (w : World) : Calls Tryz.prog 18 #[.int .i64 100, .int .i64 0, .int .i64 1000000000] w (fun e w' => e = .returned (.bool true) ∧ w = w') := kwithin_any 100 0 1000000000 w
theorem cwithin_ex2 (w : World) : Calls Tryz.prog 18 #[.int .i64 4, .int .i64 0, .int .i64 8] w (fun e w' => e = .returned (.bool true) ∧ w = w') := kwithin_any 4 0 8 w
theorem nums_ex (b : Nat) (w : World) (h : IsT 1 intCells w (some ⟨b, 0, none⟩) 2 [9, -9]) : Calls Tryz.prog 37 #[.slice (some ⟨b, 0, none⟩) 2 2] w (Ret (.bool true) w) := validNumbers_any (some ⟨b, 0, none⟩) 2 2 [9, -9] w h de9
theorem ints_ex1 (b c : Nat) (w : World) (h1 : IsT 1 intCells w (some ⟨b, 0, none⟩) 1 [600]) (h2 : IsT 1 intCells w (some ⟨c, 0, none⟩) 1 [600]) : Calls Tryz.prog 15 #[.slice (some ⟨b, 0, none⟩) 1 1, .slice (some ⟨c, 0, none⟩) 1 1] w (Ret (.bool true) w) := ints_any _ _ 1 1 1 1 [600] [600] w h1 h2 de9 de9
theorem ints_ex2 (b c : Nat) (w : World) (h1 : IsT 1 intCells w (some ⟨b, 0, none⟩) 2 [4, -4]) (h2 : IsT 1 intCells w (some ⟨c, 0, none⟩) 2 [4, -4]) : Calls Tryz.prog 15 #[.slice (some ⟨b, 0, none⟩) 2 2, .slice (some ⟨c, 0, none⟩) 2 2] w (Ret (.bool true) w) := ints_any _ _ 2 2 2 2 [4, -4] [4, -4] w h1 h2 de9 de9
theorem cub_bl_apiSpan_0_1 (a0 a1 : Value) (ha0 : a0.oneCell' = true) (ha1 : a1.oneCell' = true) : ∀ w, (Instr.build 55 #[(0, a0), (1, a1)]).run Tryz.prog w = .ok (.agg #[a0, a1]) w := by
 have ea0 : a0.cells = #[a0] := cells_one ha0
 have ea1 : a1.cells = #[a1] := cells_one ha1
 intro w; simp [Instr.build, Instr.fill, cells_agg, Tryz.runUnderlying55, Tryz.zeroValue55, Tryz.sizeOf3, ea0, ea1]
set_option maxRecDepth 100000 in
theorem errors_ex (w : World) : Calls Tryz.prog 12 #[(.agg #[.int .i64 5000, .int .i64 0]), (.agg #[.int .i64 4200, .int .i64 4700, .int .i64 0, .int .i64 0, .int .i64 0, .int .i64 0, .int .i64 0, .int .i64 0, .int .i64 0, .int .i64 0, .int .i64 0, .int .i64 0, .int .i64 0, .int .i64 0, .int .i64 0, .int .i64 0])] w (Ret (.tuple #[(.agg #[.int .i64 300, .int .i64 800]), (.agg #[.int .i64 0, .int .i64 0]), .int .i64 0]) w) := by
 refine calls_ax (vs := [(.agg #[.int .i64 5000, .int .i64 0]), (.agg #[.int .i64 4200, .int .i64 4700, .int .i64 0, .int .i64 0, .int .i64 0, .int .i64 0, .int .i64 0, .int .i64 0, .int .i64 0, .int .i64 0, .int .i64 0, .int .i64 0, .int .i64 0, .int .i64 0, .int .i64 0, .int .i64 0])]) Tryz.func12 rfl rfl ?_
 refine ac_seq (ac_region ?_)
 refine al_nb (r_box rfl rfl) ?_
 intro b1
 refine al_nb (r_box rfl rfl) ?_
 intro b2
 refine al_nb (r_alloc Tryz.zeroValue55 rfl) ?_
 intro b3
 refine al_nb (r_alloc Tryz.zeroValue55 rfl) ?_
 intro b4
 refine al_p (q_assign rfl) (al_end (aq_then ?_))
 refine ac_seq (ac_seq (ac_region ?_))
 refine al_p (q_loadAll (i := 3) rfl rfl Tryz.isAgg65 Tryz.sizeOf65 rfl) (al_call Tryz.call30 (.cons rfl .nil) rfl rfl (fun w1 hs1 => ?_))
 refine (goal_ex _).mono ?_
 rintro e u1 ⟨rfl, hb_1⟩
 refine ⟨_, rfl, hb_1, ?_⟩
 clear hs1
 refine al_p (q_not rfl) (al_p (q_move rfl) (al_p (q_loadAll (i := 2) rfl rfl Tryz.isAgg57 Tryz.sizeOf57 rfl) (al_call Tryz.call31 (.cons rfl .nil) rfl rfl (fun w2 hs2 => ?_))))
 refine (shape_ex _).mono ?_
 rintro e u2 ⟨rfl, hb_2⟩
 refine ⟨_, rfl, hb_2, ?_⟩
 clear hs2
 refine al_p (q_not rfl) (al_p (q_pickF rfl rfl) (al_end (aq_then ?_)))
 refine ac_condF rfl (ac_skip (aq_then (ac_seq (ac_region ?_))))
 refine al_p (q_fieldAddr 0 rfl Tryz.runUnderlying65 rfl Tryz.sizeOf3 de9 rfl) (al_p (q_load (i := 3) rfl rfl rfl Tryz.isAgg3) ?_)
 refine al_p (q_fieldAddr 0 rfl Tryz.runUnderlying65 rfl Tryz.sizeOf3 de9 rfl) (al_p (q_load (i := 3) rfl rfl rfl Tryz.isAgg3) (al_p (q_build (.cons rfl (.cons rfl .nil)) (cub_bl_apiSpan_0_1 _ _ rfl rfl)) ?_))
 refine al_p (q_fieldAddr 0 rfl Tryz.runUnderlying57 rfl Tryz.sizeOf55 de9 rfl) (al_p (q_loadSub (i := 2) rfl rfl Tryz.isAgg55 Tryz.sizeOf55 .k0 .k2) (al_call Tryz.call32 (.cons rfl (.cons rfl .nil)) rfl rfl (fun w3 hs3 => ?_)))
 refine (sub_ex1 _).mono ?_
 rintro e u3 ⟨rfl, hb_3⟩
 refine ⟨_, rfl, hb_3, ?_⟩
 clear hs3
 refine al_p (q_move rfl) (al_p (q_extract rfl rfl) (al_p (q_extract rfl rfl) (al_storeAll (i := 1) rfl rfl rfl rfl Tryz.sizeOf55 rfl rfl .k1 rfl (al_p (q_assign rfl) ?_))))
 refine al_end (aq_then ?_)
 refine ac_seq (ac_region ?_)
 refine al_p (q_fieldAddr 1 rfl Tryz.runUnderlying65 rfl Tryz.sizeOf3 de9 rfl) (al_p (q_load (i := 3) rfl rfl rfl Tryz.isAgg3) ?_)
 refine al_p (q_fieldAddr 1 rfl Tryz.runUnderlying65 rfl Tryz.sizeOf3 de9 rfl) (al_p (q_load (i := 3) rfl rfl rfl Tryz.isAgg3) (al_p (q_build (.cons rfl (.cons rfl .nil)) (cub_bl_apiSpan_0_1 _ _ rfl rfl)) ?_))
 refine al_p (q_fieldAddr 2 rfl Tryz.runUnderlying57 rfl Tryz.sizeOf55 de9 rfl) (al_p (q_loadSub (i := 2) rfl rfl Tryz.isAgg55 Tryz.sizeOf55 .k2 .k2) (al_call Tryz.call32 (.cons rfl (.cons rfl .nil)) rfl rfl (fun w4 hs4 => ?_)))
 refine (sub_ex2 _).mono ?_
 rintro e u4 ⟨rfl, hb_4⟩
 refine ⟨_, rfl, hb_4, ?_⟩
 clear hs4
 refine al_p (q_move rfl) (al_p (q_extract rfl rfl) (al_p (q_extract rfl rfl) (al_storeAll (i := 0) rfl rfl rfl rfl Tryz.sizeOf55 rfl rfl .k0 rfl (al_p (q_assign rfl) ?_))))
 refine al_end (aq_then ?_)
 refine ac_seq (ac_seq (ac_region ?_))
 refine al_p (q_move rfl) (al_p (q_same (v' := .bool false) (q_neq rfl rfl) rfl) (al_p (q_move rfl) (al_p (q_move rfl) (al_p (q_same (v' := .bool false) (q_neq rfl rfl) rfl) ?_))))
 refine al_p (q_pickF rfl rfl) (al_end (aq_then ?_))
 refine ac_condF rfl (ac_skip (aq_then (ac_seq (ac_draw 4 kr9 kr9 ?_))))
 ·refine ah_t 0 (fun w9 hs => hs) rfl rfl kr9 (q_loadAll (i := 1) rfl rfl Tryz.isAgg55 Tryz.sizeOf55 rfl) (ah_t 1 (fun w9 hs => hs) rfl rfl kr9 (q_loadAll (i := 0) rfl rfl Tryz.isAgg55 Tryz.sizeOf55 rfl) (ah_one 2 rfl kr9 (fun hok1 hcl1 => ?_)))
  refine al_storeAll (i := 1) rfl rfl rfl rfl Tryz.sizeOf55 rfl rfl .k1 rfl (al_end (ah_back hok1 hcl1 (fun w9 hs => hs) ?_))
  refine ah_one 3 rfl kr9 (fun hok2 hcl2 => ?_)
  refine al_storeAll (i := 0) rfl rfl rfl rfl Tryz.sizeOf55 rfl rfl .k0 rfl (al_end (ah_back hok2 hcl2 (fun w9 hs => hs) ?_))
  refine ah_one 4 rfl kr9 (fun hok3 hcl3 => ?_)
  refine al_p (q_assign rfl) (al_end (ah_last kr9 ?_))
  refine aq_then (ac_ret (retR Tryz.results12 (.agg (i := 1) rfl rfl Tryz.isAgg55 Tryz.sizeOf55 rfl (.agg (i := 0) rfl rfl Tryz.isAgg55 Tryz.sizeOf55 rfl (.tmp rfl .nil))) .two (fun w9 hs => ?_)))
  exact ⟨rfl, hs.below⟩
set_option maxRecDepth 100000 in
theorem proved_ex (w : World) : Calls Tryz.prog 34 #[(.agg #[.int .i64 5000, .int .i64 0]), (.agg #[.int .i64 4200, .int .i64 4700, .int .i64 0, .int .i64 0, .int .i64 0, .int .i64 0, .int .i64 0, .int .i64 0, .int .i64 0, .int .i64 0, .int .i64 0, .int .i64 0, .int .i64 0, .int .i64 0, .int .i64 0, .int .i64 0])] w (Ret (.tuple #[.int .i64 300, .int .i64 0, .int .i64 0]) w) := by
 refine calls_ax (vs := [(.agg #[.int .i64 5000, .int .i64 0]), (.agg #[.int .i64 4200, .int .i64 4700, .int .i64 0, .int .i64 0, .int .i64 0, .int .i64 0, .int .i64 0, .int .i64 0, .int .i64 0, .int .i64 0, .int .i64 0, .int .i64 0, .int .i64 0, .int .i64 0, .int .i64 0, .int .i64 0])]) Tryz.func34 rfl rfl ?_
 refine ac_seq (ac_region ?_)
 refine al_nb (r_box rfl rfl) ?_
 intro b1
 refine al_nb (r_box rfl rfl) ?_
 intro b2
 refine al_p (q_assign rfl) (al_p (q_assign rfl) (al_p (q_assign rfl) (al_end (aq_then ?_))))
 refine ac_seq (ac_region ?_)
 refine al_p (q_loadAll (i := 1) rfl rfl Tryz.isAgg65 Tryz.sizeOf65 rfl) (al_p (q_loadAll (i := 0) rfl rfl Tryz.isAgg57 Tryz.sizeOf57 rfl) (al_call Tryz.call12 (.cons rfl (.cons rfl .nil)) rfl rfl (fun w1 hs1 => ?_)))
 refine (errors_ex _).mono ?_
 rintro e u1 ⟨rfl, hb_1⟩
 refine ⟨_, rfl, hb_1, ?_⟩
 clear hs1
 refine al_p (q_move rfl) (al_p (q_extract rfl rfl) (al_p (q_extract rfl rfl) (al_p (q_extract rfl rfl) (al_new (fun b => .pointer (some ⟨b, 0, none⟩)) (r_alloc Tryz.zeroValue55 rfl) rfl rfl rfl ?_))))
 intro b3
 refine al_nb (r_alloc Tryz.zeroValue55 rfl) ?_
 intro b4
 refine al_storeAll (i := 1) rfl rfl rfl rfl Tryz.sizeOf55 rfl rfl .k1 rfl (al_storeAll (i := 0) rfl rfl rfl rfl Tryz.sizeOf55 rfl rfl .k0 rfl (al_p (q_assign rfl) (al_end (aq_then ?_))))
 refine ac_seq (ac_draw 7 kr9 kr9 ?_)
 ·refine ah_t 0 (fun w9 hs => hs) rfl rfl kr9 (q_loadAll (i := 1) rfl rfl Tryz.isAgg55 Tryz.sizeOf55 rfl) (ah_t 2 (fun w9 hs => hs) rfl rfl kr9 (q_loadAll (i := 0) rfl rfl Tryz.isAgg55 Tryz.sizeOf55 rfl) (ah_t 4 (fun w9 hs => hs) rfl rfl kr9 (q_move rfl) (ah_one 1 rfl kr9 (fun hok1 hcl1 => ?_))))
  refine al_call Tryz.call65 (.cons rfl .nil) rfl rfl (fun w4 hs4 => ?_)
  refine (prov_ex1 _).mono ?_
  rintro e u4 ⟨rfl, hb_4⟩
  refine ⟨_, rfl, hb_4, ?_⟩
  clear hs4
  refine al_end (ah_back hok1 hcl1 (fun w9 hs => (hs.fewer 1 rfl)) ?_)
  refine ah_few ?_
  refine ah_one 3 rfl kr9 (fun hok2 hcl2 => ?_)
  refine al_call Tryz.call65 (.cons rfl .nil) rfl rfl (fun w5 hs5 => ?_)
  refine (prov_ex2 _).mono ?_
  rintro e u5 ⟨rfl, hb_5⟩
  refine ⟨_, rfl, hb_5, ?_⟩
  clear hs5
  refine al_end (ah_back hok2 hcl2 (fun w9 hs => (hs.fewer 1 rfl)) ?_)
  refine ah_few ?_
  refine ah_one 5 rfl kr9 (fun hok3 hcl3 => ?_)
  refine al_p (q_assign rfl) (al_end (ah_back hok3 hcl3 (fun w9 hs => hs) ?_))
  refine ah_one 6 rfl kr9 (fun hok4 hcl4 => ?_)
  refine al_p (q_assign rfl) (al_end (ah_back hok4 hcl4 (fun w9 hs => hs) ?_))
  refine ah_one 7 rfl kr9 (fun hok5 hcl5 => ?_)
  refine al_p (q_assign rfl) (al_end (ah_last kr9 ?_))
  refine aq_then (ac_ret (retR Tryz.results34 (.tmp rfl (.tmp rfl (.tmp rfl .nil))) .two (fun w9 hs => ?_)))
  exact ⟨rfl, hs.below⟩
set_option maxRecDepth 100000 in
theorem setup_ex (xa xc xg : Nat) (w : World) (hM : IsM w ⟨some ⟨xa, 0, none⟩, none, some ⟨xc, 0, none⟩, none, 1, 1, 0, 0, 1, 1, 0, 0⟩ mx7) (hG : IsT 4 GainD.cells w (some ⟨xg, 0, none⟩) 1 [gx7]) : Calls Tryz.prog 16 #[(.agg #[.string ⟨#[109]⟩, .slice (some ⟨xa, 0, none⟩) 1 1, .slice none 0 0, .slice (some ⟨xc, 0, none⟩) 1 1, .int .i64 0, .int .i64 0, .int .i64 1, .int .i64 1, .int .i64 1, .slice none 0 0]), (.agg #[.slice (some ⟨xg, 0, none⟩) 1 1, .int .i64 100])] w (Ret (.bool true) w) := by
 refine calls_ax (vs := [(.agg #[.string ⟨#[109]⟩, .slice (some ⟨xa, 0, none⟩) 1 1, .slice none 0 0, .slice (some ⟨xc, 0, none⟩) 1 1, .int .i64 0, .int .i64 0, .int .i64 1, .int .i64 1, .int .i64 1, .slice none 0 0]), (.agg #[.slice (some ⟨xg, 0, none⟩) 1 1, .int .i64 100])]) Tryz.func16 rfl rfl ?_
 refine ac_seq (ac_region ?_)
 refine al_nb (r_box rfl rfl) ?_
 intro b1
 refine al_nb (r_box rfl rfl) ?_
 intro b2
 refine al_p (q_assign rfl) (al_end (aq_then ?_))
 refine ac_seq (ac_region ?_)
 refine al_p (q_loadAll (i := 1) rfl rfl Tryz.isAgg29 Tryz.sizeOf29 rfl) (al_call Tryz.call38 (.cons rfl .nil) rfl rfl (fun w1 hs1 => ?_))
 refine (check_ex xa xc _ (hM.below hs1.below)).mono ?_
 rintro e u1 ⟨rfl, hb_1⟩
 refine ⟨_, rfl, hb_1, ?_⟩
 clear hs1
 refine al_p (q_same (v' := .bool true) (q_eql rfl rfl) rfl) (al_p (q_move rfl) ?_)
 refine al_p (q_fieldAddr 0 rfl Tryz.runUnderlying62 rfl Tryz.sizeOf60 de9 rfl) (al_p (q_load (i := 0) rfl rfl rfl Tryz.isAgg60) (al_p (q_same (v' := .int .i64 1) (q_lenS rfl Tryz.runUnderlying60) rfl) ?_))
 refine al_p (q_fieldAddr 1 rfl Tryz.runUnderlying29 rfl Tryz.sizeOf22 de9 rfl) (al_p (q_load (i := 1) rfl rfl rfl Tryz.isAgg22) (al_p (q_same (v' := .int .i64 1) (q_lenS rfl Tryz.runUnderlying22) rfl) (al_p (q_same (v' := .bool true) (q_eql rfl rfl) rfl) (al_p (q_pickT rfl rfl) ?_))))
 refine al_p (q_move rfl) ?_
 refine al_p (q_fieldAddr 0 rfl Tryz.runUnderlying62 rfl Tryz.sizeOf60 de9 rfl) (al_p (q_load (i := 0) rfl rfl rfl Tryz.isAgg60) (al_call Tryz.call39 (.cons rfl (.cons rfl .nil)) rfl rfl (fun w2 hs2 => ?_)))
 refine (strong_ex xg _ (hG.below hs2.below)).mono ?_
 rintro e u2 ⟨rfl, hb_2⟩
 refine ⟨_, rfl, hb_2, ?_⟩
 clear hs2
 refine al_p (q_not rfl) (al_p (q_pickT rfl rfl) (al_p (q_move rfl) ?_))
 refine al_p (q_fieldAddr 1 rfl Tryz.runUnderlying62 rfl Tryz.sizeOf3 de9 rfl) (al_p (q_load (i := 0) rfl rfl rfl Tryz.isAgg3) (al_call Tryz.call18 (.cons rfl (.cons rfl (.cons rfl .nil))) rfl rfl (fun w3 hs3 => ?_)))
 refine (cwithin_ex _).mono ?_
 rintro e u3 ⟨rfl, rfl⟩
 refine ⟨_, rfl, (Below.refl _ _), ?_⟩
 clear hs3
 refine al_p (q_pickT rfl rfl) (al_p (q_assign rfl) (al_end (aq_then ?_)))
 refine ac_ret (ret1 Tryz.results16 rfl (fun w9 hs => ?_))
 exact ⟨rfl, hs.below⟩
theorem cub_bs_int_4_0_1_2_3 (a0 a1 a2 a3 : Value) (ha0 : a0.oneCell' = true) (ha1 : a1.oneCell' = true) (ha2 : a2.oneCell' = true) (ha3 : a3.oneCell' = true) : ∀ w, (Instr.buildSlice 30 4 #[(0, a0), (1, a1), (2, a2), (3, a3)]).run Tryz.prog w = .ok (.slice (some ⟨w.heap.size, 0, none⟩) 4 4) (w.alloc (.cells [a0, a1, a2, a3].toArray 3)) := by
 have ea0 : a0.cells = #[a0] := cells_one ha0
 have ea1 : a1.cells = #[a1] := cells_one ha1
 have ea2 : a2.cells = #[a2] := cells_one ha2
 have ea3 : a3.cells = #[a3] := cells_one ha3
 intro w; (simp [Instr.buildSlice, Instr.fill, cells_agg, newRow, Tryz.runUnderlying30, Tryz.zeroValue3, Tryz.sizeOf3, ea0, ea1, ea2, ea3] <;> (rw [(by kernel_rfl : Array.range 4 = #[0, 1, 2, 3])]; simp [Value.cells]))
set_option maxRecDepth 100000 in
theorem wish_ex (xa xc xg : Nat) (w : World) (hM : IsM w ⟨some ⟨xa, 0, none⟩, none, some ⟨xc, 0, none⟩, none, 1, 1, 0, 0, 1, 1, 0, 0⟩ mx7) (hG : IsT 4 GainD.cells w (some ⟨xg, 0, none⟩) 1 [gx7]) : Calls Tryz.prog 13 #[(.agg #[.string ⟨#[109]⟩, .slice (some ⟨xa, 0, none⟩) 1 1, .slice none 0 0, .slice (some ⟨xc, 0, none⟩) 1 1, .int .i64 0, .int .i64 0, .int .i64 1, .int .i64 1, .int .i64 1, .slice none 0 0]), (.agg #[.slice (some ⟨xg, 0, none⟩) 1 1, .int .i64 100]), (.agg #[.int .i64 0, .int .i64 0]), (.agg #[.int .i64 5000, .int .i64 0]), (.agg #[.int .i64 4200, .int .i64 4700, .int .i64 0, .int .i64 0, .int .i64 0, .int .i64 0, .int .i64 0, .int .i64 0, .int .i64 0, .int .i64 0, .int .i64 0, .int .i64 0, .int .i64 0, .int .i64 0, .int .i64 0, .int .i64 0])] w (fun e w' => ∃ b, e = .returned (.tuple #[.slice (some ⟨b, 0, none⟩) 1 1, .int .i64 0]) ∧ Own w [(b, .cells [.int .i64 600])] w') := by
 obtain ⟨b11, o11, hA1, hlt1, hget1⟩ := hM.coils.2 (by simp)
 have hx1 := (rfl : [cx7][0]? = some cx7)
 obtain ⟨b21, o21, hA2, hlt2, hget2⟩ := hG.2 (by simp)
 have hx2 := (rfl : [gx7][0]? = some gx7)
 refine calls_ax (vs := [(.agg #[.string ⟨#[109]⟩, .slice (some ⟨xa, 0, none⟩) 1 1, .slice none 0 0, .slice (some ⟨xc, 0, none⟩) 1 1, .int .i64 0, .int .i64 0, .int .i64 1, .int .i64 1, .int .i64 1, .slice none 0 0]), (.agg #[.slice (some ⟨xg, 0, none⟩) 1 1, .int .i64 100]), (.agg #[.int .i64 0, .int .i64 0]), (.agg #[.int .i64 5000, .int .i64 0]), (.agg #[.int .i64 4200, .int .i64 4700, .int .i64 0, .int .i64 0, .int .i64 0, .int .i64 0, .int .i64 0, .int .i64 0, .int .i64 0, .int .i64 0, .int .i64 0, .int .i64 0, .int .i64 0, .int .i64 0, .int .i64 0, .int .i64 0])]) Tryz.func13 rfl rfl ?_
 refine ac_seq (ac_region ?_)
 refine al_nb (r_box rfl rfl) ?_
 intro b1
 refine al_nb (r_box rfl rfl) ?_
 intro b2
 refine al_nb (r_box rfl rfl) ?_
 intro b3
 refine al_nb (r_box rfl rfl) ?_
 intro b4
 refine al_nb (r_box rfl rfl) ?_
 intro b5
 refine al_p (q_assign rfl) (al_p (q_assign rfl) (al_end (aq_then ?_)))
 refine ac_seq (ac_seq (ac_region ?_))
 refine al_p (q_loadAll (i := 4) rfl rfl Tryz.isAgg29 Tryz.sizeOf29 rfl) (al_p (q_loadAll (i := 3) rfl rfl Tryz.isAgg62 Tryz.sizeOf62 rfl) (al_call Tryz.call16 (.cons rfl (.cons rfl .nil)) rfl rfl (fun w1 hs1 => ?_)))
 refine (setup_ex xa xc xg _ (hM.below hs1.below) (hG.below hs1.below)).mono ?_
 rintro e u1 ⟨rfl, hb_1⟩
 refine ⟨_, rfl, hb_1, ?_⟩
 clear hs1
 refine al_p (q_not rfl) (al_p (q_move rfl) (al_p (q_loadAll (i := 2) rfl rfl Tryz.isAgg69 Tryz.sizeOf69 rfl) (al_call Tryz.call33 (.cons rfl .nil) rfl rfl (fun w2 hs2 => ?_))))
 refine (mem_ex _).mono ?_
 rintro e u2 ⟨rfl, hb_2⟩
 refine ⟨_, rfl, hb_2, ?_⟩
 clear hs2
 refine al_p (q_not rfl) (al_p (q_pickF rfl rfl) (al_end (aq_then ?_)))
 refine ac_condF rfl (ac_skip (aq_then (ac_seq (ac_region ?_))))
 refine al_p (q_loadAll (i := 1) rfl rfl Tryz.isAgg65 Tryz.sizeOf65 rfl) (al_p (q_loadAll (i := 0) rfl rfl Tryz.isAgg57 Tryz.sizeOf57 rfl) (al_call Tryz.call34 (.cons rfl (.cons rfl .nil)) rfl rfl (fun w3 hs3 => ?_)))
 refine (proved_ex _).mono ?_
 rintro e u3 ⟨rfl, hb_3⟩
 refine ⟨_, rfl, hb_3, ?_⟩
 clear hs3
 refine al_p (q_move rfl) (al_p (q_extract rfl rfl) (al_p (q_extract rfl rfl) (al_p (q_extract rfl rfl) (al_p (q_assign rfl) ?_))))
 refine al_p (q_assign rfl) (al_p (q_assign rfl) (al_end (aq_then ?_)))
 refine ac_seq (ac_seq (ac_region ?_))
 refine al_p (q_move rfl) (al_p (q_same (v' := .bool false) (q_neq rfl rfl) rfl) (al_end (aq_then ?_)))
 refine ac_condF rfl (ac_skip (aq_then (ac_seq (ac_region ?_))))
 refine al_p (q_fieldAddr 1 rfl Tryz.runUnderlying29 rfl Tryz.sizeOf22 de9 rfl) (al_p (q_load (i := 4) rfl rfl rfl Tryz.isAgg22) (al_p (q_same (v' := .int .i64 1) (q_lenS rfl Tryz.runUnderlying22) rfl) ?_))
 refine al_makeInts (n := 1) (z := (.int .i64 0)) (bytes := 8) rfl rfl rfl Tryz.underlying30 kr9 rfl om9 de9 rfl rfl ?_
 intro b6
 refine al_p (q_assign rfl) (al_end (aq_then ?_))
 refine ac_seq (ac_seq (ac_region ?_))
 refine al_p (q_fieldAddr 1 rfl Tryz.runUnderlying29 rfl Tryz.sizeOf22 de9 rfl) (al_p (q_load (i := 5) rfl rfl rfl Tryz.isAgg22) (al_p (q_same (v' := .int .i64 1) (q_lenS rfl Tryz.runUnderlying22) rfl) (al_p (q_move rfl) (al_end (aq_then ?_)))))
 refine ac_block (ac_loop1 ?_)
 refine ac_seq (ac_region ?_)
 refine al_p (q_same (v' := .bool true) (q_lss rfl rfl) rfl) (al_end (aq_then ?_))
 refine ac_seq (ac_condT rfl (ac_skip (aq_then (ac_seq ?_))))
 refine ac_block (ac_seq (ac_region ?_))
 refine al_p (q_move rfl) ?_
 refine al_p (q_indexAddrA (i := 0) (o11 + 0 * 8 + 0) hA1 rfl rfl rfl om9 Tryz.runUnderlying22 Tryz.sizeOf51 rfl) (al_p (q_loadXs (CoilD.cells cx7) rfl Tryz.isAgg51 Tryz.sizeOf51 (fun w9 hs j9 v9 h9 => by rw [addr_add]; exact (hs.below.cell (p := ⟨_, _, none⟩) hlt1).trans ((hget1 0 _ hx1) j9 v9 h9)) rfl) (al_new (fun b => .pointer (some ⟨b, 0, none⟩)) (r_alloc Tryz.zeroValue51 rfl) rfl rfl rfl ?_))
 intro b7
 refine al_p (q_assign rfl) (al_storeAll (i := 0) rfl rfl rfl rfl Tryz.sizeOf51 rfl rfl .k0 rfl (al_end (aq_then ?_)))
 refine ac_seq (ac_region ?_)
 refine al_p (q_fieldAddr 0 rfl Tryz.runUnderlying62 rfl Tryz.sizeOf60 de9 rfl) (al_p (q_load (i := 5) rfl rfl rfl Tryz.isAgg60) (al_p (q_move rfl) ?_))
 refine al_p (q_indexAddrA (i := 0) (o21 + 0 * 4 + 0) hA2 rfl rfl rfl om9 Tryz.runUnderlying60 Tryz.sizeOf59 rfl) (al_p (q_loadXs (GainD.cells gx7) rfl Tryz.isAgg59 Tryz.sizeOf59 (fun w9 hs j9 v9 h9 => by rw [addr_add]; exact (hs.below.cell (p := ⟨_, _, none⟩) hlt2).trans ((hget2 0 _ hx2) j9 v9 h9)) rfl) (al_new (fun b => .pointer (some ⟨b, 0, none⟩)) (r_alloc Tryz.zeroValue59 rfl) rfl rfl rfl ?_))
 intro b8
 refine al_storeAll (i := 0) rfl rfl rfl rfl Tryz.sizeOf59 rfl rfl .k0 rfl (al_end (aq_then ?_))
 refine ac_draw 23 kr9 kr9 ?_
 refine ah_t 0 (fun w9 hs => hs) rfl rfl kr9 (q_move rfl) (ah_t 1 (fun w9 hs => hs) rfl rfl kr9 (q_move rfl) ?_)
 refine ah_t 2 (fun w9 hs => hs) rfl rfl kr9 (q_fieldAddr 0 rfl Tryz.runUnderlying59 rfl Tryz.sizeOf3 de9 rfl) (ah_t 3 (fun w9 hs => hs) rfl rfl kr9 (q_load (i := 0) rfl rfl rfl Tryz.isAgg3) ?_)
 refine ah_t 4 (fun w9 hs => hs) rfl rfl kr9 (q_fieldAddr 1 rfl Tryz.runUnderlying59 rfl Tryz.sizeOf3 de9 rfl) (ah_t 5 (fun w9 hs => hs) rfl rfl kr9 (q_load (i := 0) rfl rfl rfl Tryz.isAgg3) ?_)
 refine ah_t 6 (fun w9 hs => hs) rfl rfl kr9 (q_fieldAddr 2 rfl Tryz.runUnderlying59 rfl Tryz.sizeOf3 de9 rfl) (ah_t 7 (fun w9 hs => hs) rfl rfl kr9 (q_load (i := 0) rfl rfl rfl Tryz.isAgg3) ?_)
 refine ah_t 8 (fun w9 hs => hs) rfl rfl kr9 (q_fieldAddr 3 rfl Tryz.runUnderlying59 rfl Tryz.sizeOf3 de9 rfl) (ah_t 9 (fun w9 hs => hs) rfl rfl kr9 (q_load (i := 0) rfl rfl rfl Tryz.isAgg3) (ah_t 11 (fun w9 hs => hs) rfl rfl kr9 (q_move rfl) (ah_t 12 (fun w9 hs => hs) rfl rfl kr9 (q_move rfl) ?_)))
 refine ah_t 13 (fun w9 hs => hs) rfl rfl kr9 (q_fieldAddr 0 rfl Tryz.runUnderlying69 rfl Tryz.sizeOf3 de9 rfl) (ah_t 14 (fun w9 hs => hs) rfl rfl kr9 (q_load (i := 5) rfl rfl rfl Tryz.isAgg3) ?_)
 refine ah_t 15 (fun w9 hs => hs) rfl rfl kr9 (q_fieldAddr 1 rfl Tryz.runUnderlying69 rfl Tryz.sizeOf3 de9 rfl) (ah_t 16 (fun w9 hs => hs) rfl rfl kr9 (q_load (i := 5) rfl rfl rfl Tryz.isAgg3) ?_)
 refine ah_t 19 (fun w9 hs => hs) rfl rfl kr9 (q_fieldAddr 5 rfl Tryz.runUnderlying51 rfl Tryz.sizeOf3 de9 rfl) (ah_t 20 (fun w9 hs => hs) rfl rfl kr9 (q_load (i := 1) rfl rfl rfl Tryz.isAgg3) ?_)
 refine ah_two 10 17 rfl rfl  kr9 (fun hok1 hcl1 => ?_) (fun hok1 hcl1 => ?_)
 ·refine al_new (fun b => .slice (some ⟨b, 0, none⟩) 4 4) (r_buildSlice (.cons rfl (.cons rfl (.cons rfl (.cons rfl .nil)))) (cub_bs_int_4_0_1_2_3 _ _ _ _ rfl rfl rfl rfl)) rfl rfl rfl ?_
  intro b9
  refine al_end (ah_back hok1 hcl1 (fun w9 hs => (hs.tail 1 rfl)) ?_)
  refine ah_one 17 rfl kr9 (fun hok2 hcl2 => ?_)
  refine al_new (fun b => .slice (some ⟨b, 0, none⟩) 4 4) (r_buildSlice (.cons rfl (.cons rfl (.cons rfl (.cons rfl .nil)))) (cub_bs_int_4_0_1_2_3 _ _ _ _ rfl rfl rfl rfl)) rfl rfl rfl ?_
  intro b10
  refine al_end (ah_back hok2 hcl2 (fun w9 hs => (hs.tail 2 rfl)) ?_)
  refine ah_one 18 rfl kr9 (fun hok3 hcl3 => ?_)
  refine al_call Tryz.call36 (.cons rfl (.cons rfl .nil)) rfl rfl (fun w4 hs4 => ?_)
  refine (answer_ex _ _ _ (isT_box0 (n := 1) (enc := intCells) (fun _ => rfl) (hs4.at 1 rfl) rfl rfl) (isT_box0 (n := 1) (enc := intCells) (fun _ => rfl) (hs4.at 0 rfl) rfl rfl)).mono ?_
  rintro e u4 ⟨rfl, hb_4⟩
  refine ⟨_, rfl, hb_4, ?_⟩
  clear hs4
  refine al_end (ah_back hok3 hcl3 (fun w9 hs => ((hs.fewer 1 rfl).tail 2 rfl)) ?_)
  refine ah_one 21 rfl kr9 (fun hok4 hcl4 => ?_)
  refine al_call Tryz.call35 (.cons rfl (.cons rfl .nil)) rfl rfl (fun w5 hs5 => ?_)
  refine (cut_ex _).mono ?_
  rintro e u5 ⟨rfl, rfl⟩
  refine ⟨_, rfl, (Below.refl _ _), ?_⟩
  clear hs5
  refine al_end (ah_back hok4 hcl4 (fun w9 hs => ((hs.fewer 2 rfl).tail 2 rfl)) ?_)
  refine ah_t 22 (fun w9 hs => ((hs.fewer 2 rfl).tail 2 rfl)) rfl rfl kr9 (q_indexAddr (i := 0) (0) rfl rfl rfl om9 Tryz.runUnderlying30 Tryz.sizeOf3 om9) (ah_one 23 rfl kr9 (fun hok5 hcl5 => ?_))
  refine al_store1 (i := 4) rfl rfl rfl rfl Tryz.sizeOf3 (SetAt.ofSet de9) .k4 rfl (al_end (ah_last kr9 ?_))
  refine aq_inN (aq_then (ac_region ?_))
  refine al_p (q_same (v' := .int .i64 1) (q_add rfl rfl om9) rfl) (al_p (q_move rfl) (al_end (aq_then (aq_again ?_))))
  refine ac_seq (ac_region ?_)
  refine al_p (q_same (v' := .bool false) (q_lss rfl rfl) rfl) (al_end (aq_then ?_))
  refine aq_keepL [6, 7, 10, 11, 12, 13, 15, 16, 17, 18, 43, 44, 45, 46, 47, 48, 49, 50, 51, 52, 53, 54, 55, 56, 57, 58, 59, 60, 61, 62, 63, 64, 65, 66, 67, 68, 69, 70, 71, 72, 73, 74, 75, 76, 77, 78] (.cons rfl (.cons rfl (.cons rfl (.cons rfl (.cons rfl (.cons rfl (.cons rfl (.cons rfl (.cons rfl (.cons rfl (.cons rfl (.cons rfl (.cons rfl (.cons rfl (.cons rfl (.cons rfl (.cons rfl (.cons rfl (.cons rfl (.cons rfl (.cons rfl (.cons rfl (.cons rfl (.cons rfl (.cons rfl (.cons rfl (.cons rfl (.cons rfl (.cons rfl (.cons rfl (.cons rfl (.cons rfl (.cons rfl (.cons rfl (.cons rfl (.cons rfl (.cons rfl (.cons rfl (.cons rfl (.cons rfl (.cons rfl (.cons rfl (.cons rfl (.cons rfl (.cons rfl (.cons rfl .nil)))))))))))))))))))))))))))))))))))))))))))))) ?_
  refine ac_seq (ac_condF rfl (ac_exit (aq_thenE (aq_thenE ?_))))
  refine aq_hit (aq_then (ac_seq (ac_region ?_)))
  refine al_p (q_move rfl) (al_p (q_assign rfl) (al_p (q_assign rfl) (al_end (aq_then ?_))))
  refine ac_ret (ret2 Tryz.results13 rfl rfl (fun w9 hs => ?_))
  exact ⟨b6, rfl, hs.own (.cons (j := 4) rfl .nil) de9⟩
 ·refine al_new (fun b => .slice (some ⟨b, 0, none⟩) 4 4) (r_buildSlice (.cons rfl (.cons rfl (.cons rfl (.cons rfl .nil)))) (cub_bs_int_4_0_1_2_3 _ _ _ _ rfl rfl rfl rfl)) rfl rfl rfl ?_
  intro b11
  refine al_end (ah_back hok1 hcl1 (fun w9 hs => (hs.tail 1 rfl)) ?_)
  refine ah_one 10 rfl kr9 (fun hok6 hcl6 => ?_)
  refine al_new (fun b => .slice (some ⟨b, 0, none⟩) 4 4) (r_buildSlice (.cons rfl (.cons rfl (.cons rfl (.cons rfl .nil)))) (cub_bs_int_4_0_1_2_3 _ _ _ _ rfl rfl rfl rfl)) rfl rfl rfl ?_
  intro b12
  refine al_end (ah_back hok6 hcl6 (fun w9 hs => (hs.tail 2 rfl)) ?_)
  refine ah_one 18 rfl kr9 (fun hok7 hcl7 => ?_)
  refine al_call Tryz.call36 (.cons rfl (.cons rfl .nil)) rfl rfl (fun w6 hs6 => ?_)
  refine (answer_ex _ _ _ (isT_box0 (n := 1) (enc := intCells) (fun _ => rfl) (hs6.at 0 rfl) rfl rfl) (isT_box0 (n := 1) (enc := intCells) (fun _ => rfl) (hs6.at 1 rfl) rfl rfl)).mono ?_
  rintro e u6 ⟨rfl, hb_6⟩
  refine ⟨_, rfl, hb_6, ?_⟩
  clear hs6
  refine al_end (ah_back hok7 hcl7 (fun w9 hs => ((hs.fewer 1 rfl).tail 2 rfl)) ?_)
  refine ah_one 21 rfl kr9 (fun hok8 hcl8 => ?_)
  refine al_call Tryz.call35 (.cons rfl (.cons rfl .nil)) rfl rfl (fun w7 hs7 => ?_)
  refine (cut_ex _).mono ?_
  rintro e u7 ⟨rfl, rfl⟩
  refine ⟨_, rfl, (Below.refl _ _), ?_⟩
  clear hs7
  refine al_end (ah_back hok8 hcl8 (fun w9 hs => ((hs.fewer 2 rfl).tail 2 rfl)) ?_)
  refine ah_t 22 (fun w9 hs => ((hs.fewer 2 rfl).tail 2 rfl)) rfl rfl kr9 (q_indexAddr (i := 0) (0) rfl rfl rfl om9 Tryz.runUnderlying30 Tryz.sizeOf3 om9) (ah_one 23 rfl kr9 (fun hok9 hcl9 => ?_))
  refine al_store1 (i := 4) rfl rfl rfl rfl Tryz.sizeOf3 (SetAt.ofSet de9) .k4 rfl (al_end (ah_last kr9 ?_))
  refine aq_inN (aq_then (ac_region ?_))
  refine al_p (q_same (v' := .int .i64 1) (q_add rfl rfl om9) rfl) (al_p (q_move rfl) (al_end (aq_then (aq_again ?_))))
  refine ac_seq (ac_region ?_)
  refine al_p (q_same (v' := .bool false) (q_lss rfl rfl) rfl) (al_end (aq_then ?_))
  refine ac_seq (ac_condF rfl (ac_exit (aq_thenE (aq_thenE ?_))))
  refine aq_hit (aq_then (ac_seq (ac_region ?_)))
  refine al_p (q_move rfl) (al_p (q_assign rfl) (al_p (q_assign rfl) (al_end (aq_then ?_))))
  refine ac_ret (ret2 Tryz.results13 rfl rfl (fun w9 hs => ?_))
  exact ⟨b6, rfl, hs.own (.cons (j := 4) rfl .nil) de9⟩
set_option maxRecDepth 100000 in
theorem part_ex (b : Nat) (w : World) (h : IsT 1 intCells w (some ⟨b, 0, none⟩) 2 [9, -9]) : Calls Tryz.prog 14 #[(.slice (some ⟨b, 0, none⟩) 2 2), (.int .i64 4)] w (fun e w' => ∃ p, e = .returned (.tuple #[.slice (some ⟨p, 0, none⟩) 2 2, .int .i64 0]) ∧ Own w [(p, .cells [.int .i64 4, .int .i64 (-4)])] w') := by
 obtain ⟨b11, o11, hA1, hlt1, hget1⟩ := h.2 (by simp)
 have hx1 := (rfl : ([9, -9] : List Int)[0]? = some 9)
 refine calls_ax (vs := [(.slice (some ⟨b, 0, none⟩) 2 2), (.int .i64 4)]) Tryz.func14 rfl rfl ?_
 refine ac_seq (ac_region ?_)
 refine al_p (q_assign rfl) (al_p (q_assign rfl) (al_end (aq_then ?_)))
 refine ac_seq (ac_seq (ac_region ?_))
 refine al_p (q_move rfl) (al_call Tryz.call37 (.cons rfl .nil) rfl rfl (fun w1 hs1 => ?_))
 refine (nums_ex b _ (h.below hs1.below)).mono ?_
 rintro e u1 ⟨rfl, hb_1⟩
 refine ⟨_, rfl, hb_1, ?_⟩
 clear hs1
 refine al_p (q_not rfl) (al_end (aq_then ?_))
 refine ac_condF rfl (ac_skip (aq_then (ac_seq (ac_seq (ac_region ?_)))))
 refine al_p (q_move rfl) (al_call Tryz.call18 (.cons rfl (.cons rfl (.cons rfl .nil))) rfl rfl (fun w2 hs2 => ?_))
 refine (cwithin_ex2 _).mono ?_
 rintro e u2 ⟨rfl, rfl⟩
 refine ⟨_, rfl, (Below.refl _ _), ?_⟩
 clear hs2
 refine al_p (q_not rfl) (al_end (aq_then ?_))
 refine ac_condF rfl (ac_skip (aq_then (ac_seq (ac_region ?_))))
 refine al_p (q_move rfl) (al_p (q_same (v' := .int .i64 2) (q_lenS rfl Tryz.runUnderlying30) rfl) ?_)
 refine al_makeInts (n := 2) (z := (.int .i64 0)) (bytes := 8) rfl rfl rfl Tryz.underlying30 kr9 rfl om9 de9 rfl rfl ?_
 intro b1
 refine al_p (q_assign rfl) (al_end (aq_then ?_))
 refine ac_seq (ac_seq (ac_region ?_))
 refine al_p (q_move rfl) (al_p (q_same (v' := .int .i64 2) (q_lenS rfl Tryz.runUnderlying30) rfl) (al_p (q_move rfl) (al_end (aq_then ?_))))
 refine ac_block (ac_loop1 ?_)
 refine ac_seq (ac_region ?_)
 refine al_p (q_same (v' := .bool true) (q_lss rfl rfl) rfl) (al_end (aq_then ?_))
 refine ac_seq (ac_condT rfl (ac_skip (aq_then (ac_seq ?_))))
 refine ac_block (ac_seq (ac_region ?_))
 refine al_p (q_move rfl) ?_
 refine al_p (q_indexAddrA (i := 0) (o11 + 0 * 1 + 0) hA1 rfl rfl rfl om9 Tryz.runUnderlying30 Tryz.sizeOf3 rfl) (al_p (q_loadX rfl Tryz.isAgg3 (fun w9 hs => (hs.below.cell (p := ⟨_, _, none⟩) hlt1).trans ((hget1 0 _ (rfl : ([9, -9] : List Int)[0]? = some (9))) 0 _ rfl))) (al_p (q_assign rfl) (al_p (q_assign rfl) (al_end (aq_then ?_)))))
 refine ac_region (al_p (q_move rfl) (al_p (q_move rfl) (al_p (q_move rfl) (al_p (q_move rfl) ?_))))
 refine al_p (q_same (v' := .int .i64 36) (q_mul rfl rfl om9) rfl) ?_
 refine al_p (q_same (v' := .int .i64 4) (q_quo rfl rfl om9) rfl) ?_
 refine al_p (q_indexAddr (i := 0) (0) rfl rfl rfl de9 Tryz.runUnderlying30 Tryz.sizeOf3 om9) ?_
 refine al_store1 (i := 0) rfl rfl rfl rfl Tryz.sizeOf3 (SetAt.ofSet de9) .k0 rfl (al_end (aq_inN (aq_then (ac_region ?_))))
 refine al_p (q_same (v' := .int .i64 1) (q_add rfl rfl om9) rfl) (al_p (q_move rfl) (al_end (aq_then (aq_again ?_))))
 refine ac_seq (ac_region ?_)
 refine al_p (q_same (v' := .bool true) (q_lss rfl rfl) rfl) (al_end (aq_then ?_))
 refine ac_seq (ac_condT rfl (ac_skip (aq_then (ac_seq ?_))))
 refine ac_block (ac_seq (ac_region ?_))
 refine al_p (q_move rfl) ?_
 refine al_p (q_indexAddrA (i := 1) (o11 + 1 * 1 + 0) hA1 rfl rfl rfl om9 Tryz.runUnderlying30 Tryz.sizeOf3 rfl) (al_p (q_loadX rfl Tryz.isAgg3 (fun w9 hs => (hs.below.cell (p := ⟨_, _, none⟩) hlt1).trans ((hget1 1 _ (rfl : ([9, -9] : List Int)[1]? = some (-9))) 0 _ rfl))) (al_p (q_assign rfl) (al_p (q_assign rfl) (al_end (aq_then ?_)))))
 refine ac_region (al_p (q_move rfl) (al_p (q_move rfl) (al_p (q_move rfl) (al_p (q_move rfl) ?_))))
 refine al_p (q_same (v' := .int .i64 (-36)) (q_mul rfl rfl om9) rfl) ?_
 refine al_p (q_same (v' := .int .i64 (-4)) (q_quo rfl rfl om9) rfl) ?_
 refine al_p (q_indexAddr (i := 1) (1) rfl rfl rfl de9 Tryz.runUnderlying30 Tryz.sizeOf3 om9) ?_
 refine al_store1 (i := 0) rfl rfl rfl rfl Tryz.sizeOf3 (SetAt.ofSet de9) .k0 rfl (al_end (aq_inN (aq_then (ac_region ?_))))
 refine al_p (q_same (v' := .int .i64 2) (q_add rfl rfl om9) rfl) (al_p (q_move rfl) (al_end (aq_then (aq_again ?_))))
 refine ac_seq (ac_region ?_)
 refine al_p (q_same (v' := .bool false) (q_lss rfl rfl) rfl) (al_end (aq_then ?_))
 refine ac_seq (ac_condF rfl (ac_exit (aq_thenE (aq_thenE ?_))))
 refine aq_hit (aq_then (ac_seq (ac_region ?_)))
 refine al_p (q_move rfl) (al_p (q_assign rfl) (al_p (q_assign rfl) (al_end (aq_then ?_))))
 refine ac_ret (ret2 Tryz.results14 rfl rfl (fun w9 hs => ?_))
 exact ⟨b1, rfl, hs.own (.cons (j := 0) rfl .nil) de9⟩
theorem cub_bl_apiCoil_0_1_3_4_5_6 (a0 a1 a2 a3 a4 a5 : Value) (ha0 : a0.oneCell' = true) (ha1 : a1.oneCell' = true) (ha2 : a2.oneCell' = true) (ha3 : a3.oneCell' = true) (ha4 : a4.oneCell' = true) (ha5 : a5.oneCell' = true) : ∀ w, (Instr.build 51 #[(0, a0), (1, a1), (3, a2), (4, a3), (5, a4), (6, a5)]).run Tryz.prog w = .ok (.agg #[a0, a1, (.int .i64 0), a2, a3, a4, a5, (.int .i64 0)]) w := by
 have ea0 : a0.cells = #[a0] := cells_one ha0
 have ea1 : a1.cells = #[a1] := cells_one ha1
 have ea2 : a2.cells = #[a2] := cells_one ha2
 have ea3 : a3.cells = #[a3] := cells_one ha3
 have ea4 : a4.cells = #[a4] := cells_one ha4
 have ea5 : a5.cells = #[a5] := cells_one ha5
 intro w; simp [Instr.build, Instr.fill, cells_agg, Tryz.runUnderlying51, Tryz.zeroValue51, Tryz.sizeOf3, Tryz.sizeOf9, ea0, ea1, ea2, ea3, ea4, ea5]
theorem cub_bs_apiCoil_1_0_ (c0_0 c0_1 c0_2 c0_3 c0_4 c0_5 c0_6 c0_7 : Value) : ∀ w, (Instr.buildSlice 22 1 #[(0, .agg #[c0_0, c0_1, c0_2, c0_3, c0_4, c0_5, c0_6, c0_7])]).run Tryz.prog w = .ok (.slice (some ⟨w.heap.size, 0, none⟩) 1 1) (w.alloc (.cells [c0_0, c0_1, c0_2, c0_3, c0_4, c0_5, c0_6, c0_7].toArray 51)) := by
 intro w; (simp [Instr.buildSlice, Instr.fill, cells_agg, newRow, Tryz.runUnderlying22, Tryz.zeroValue51, Tryz.sizeOf51] <;> (rw [(by kernel_rfl : Array.range 8 = #[0, 1, 2, 3, 4, 5, 6, 7])]; simp [Value.cells]))
theorem cub_bl_apiPoint_0_ (a0 : Value) (ha0 : a0.oneCell' = true) : ∀ w, (Instr.build 53 #[(0, a0)]).run Tryz.prog w = .ok (.agg #[a0, (.int .i64 0)]) w := by
 have ea0 : a0.cells = #[a0] := cells_one ha0
 intro w; simp [Instr.build, Instr.fill, cells_agg, Tryz.runUnderlying53, Tryz.zeroValue53, Tryz.sizeOf3, ea0]
theorem cub_bs_apiPoint_1_0_ (c0_0 c0_1 : Value) : ∀ w, (Instr.buildSlice 24 1 #[(0, .agg #[c0_0, c0_1])]).run Tryz.prog w = .ok (.slice (some ⟨w.heap.size, 0, none⟩) 1 1) (w.alloc (.cells [c0_0, c0_1].toArray 53)) := by
 intro w; (simp [Instr.buildSlice, Instr.fill, cells_agg, newRow, Tryz.runUnderlying24, Tryz.zeroValue53, Tryz.sizeOf53] <;> (rw [(by kernel_rfl : Array.range 2 = #[0, 1])]; simp [Value.cells]))
theorem cub_bl_apiGrid_2_3_4 (a0 a1 a2 : Value) (ha0 : a0.oneCell' = true) (ha1 : a1.oneCell' = true) (ha2 : a2.oneCell' = true) : ∀ w, (Instr.build 26 #[(2, a0), (3, a1), (4, a2)]).run Tryz.prog w = .ok (.agg #[(.int .i64 0), (.int .i64 0), a0, a1, a2]) w := by
 have ea0 : a0.cells = #[a0] := cells_one ha0
 have ea1 : a1.cells = #[a1] := cells_one ha1
 have ea2 : a2.cells = #[a2] := cells_one ha2
 intro w; simp [Instr.build, Instr.fill, cells_agg, Tryz.runUnderlying26, Tryz.zeroValue26, Tryz.sizeOf3, ea0, ea1, ea2]
theorem cub_bl_apiMachine_0_1_3_4 (a0 a1 a2 c3_0 c3_1 c3_2 c3_3 c3_4 : Value) (ha0 : a0.oneCell' = true) (ha1 : a1.oneCell' = true) (ha2 : a2.oneCell' = true) : ∀ w, (Instr.build 29 #[(0, a0), (1, a1), (3, a2), (4, .agg #[c3_0, c3_1, c3_2, c3_3, c3_4])]).run Tryz.prog w = .ok (.agg #[a0, a1, (.slice none 0 0), a2, c3_0, c3_1, c3_2, c3_3, c3_4, (.slice none 0 0)]) w := by
 have ea0 : a0.cells = #[a0] := cells_one ha0
 have ea1 : a1.cells = #[a1] := cells_one ha1
 have ea2 : a2.cells = #[a2] := cells_one ha2
 intro w; simp [Instr.build, Instr.fill, cells_agg, Tryz.runUnderlying29, Tryz.zeroValue29, Tryz.sizeOf9, Tryz.sizeOf22, Tryz.sizeOf23, Tryz.sizeOf24, Tryz.sizeOf26, Tryz.sizeOf27, ea0, ea1, ea2]
theorem cub_bl_apiShape_0_ (c0_0 c0_1 : Value) : ∀ w, (Instr.build 57 #[(0, .agg #[c0_0, c0_1])]).run Tryz.prog w = .ok (.agg #[c0_0, c0_1, (.int .i64 0), (.int .i64 0), (.int .i64 0), (.int .i64 0), (.int .i64 0), (.int .i64 0), (.int .i64 0), (.int .i64 0), (.int .i64 0), (.int .i64 0), (.int .i64 0), (.int .i64 0), (.int .i64 0), (.int .i64 0)]) w := by
 intro w; simp [Instr.build, Instr.fill, cells_agg, Tryz.runUnderlying57, Tryz.zeroValue57, Tryz.sizeOf55]
theorem cub_bl_apiGain_0_ (a0 : Value) (ha0 : a0.oneCell' = true) : ∀ w, (Instr.build 59 #[(0, a0)]).run Tryz.prog w = .ok (.agg #[a0, (.int .i64 0), (.int .i64 0), (.int .i64 0)]) w := by
 have ea0 : a0.cells = #[a0] := cells_one ha0
 intro w; simp [Instr.build, Instr.fill, cells_agg, Tryz.runUnderlying59, Tryz.zeroValue59, Tryz.sizeOf3, ea0]
theorem cub_bs_apiGain_1_0_ (c0_0 c0_1 c0_2 c0_3 : Value) : ∀ w, (Instr.buildSlice 60 1 #[(0, .agg #[c0_0, c0_1, c0_2, c0_3])]).run Tryz.prog w = .ok (.slice (some ⟨w.heap.size, 0, none⟩) 1 1) (w.alloc (.cells [c0_0, c0_1, c0_2, c0_3].toArray 59)) := by
 intro w; (simp [Instr.buildSlice, Instr.fill, cells_agg, newRow, Tryz.runUnderlying60, Tryz.zeroValue59, Tryz.sizeOf59] <;> (rw [(by kernel_rfl : Array.range 4 = #[0, 1, 2, 3])]; simp [Value.cells]))
theorem cub_bl_apiSetup_0_1 (a0 a1 : Value) (ha0 : a0.oneCell' = true) (ha1 : a1.oneCell' = true) : ∀ w, (Instr.build 62 #[(0, a0), (1, a1)]).run Tryz.prog w = .ok (.agg #[a0, a1]) w := by
 have ea0 : a0.cells = #[a0] := cells_one ha0
 have ea1 : a1.cells = #[a1] := cells_one ha1
 intro w; simp [Instr.build, Instr.fill, cells_agg, Tryz.runUnderlying62, Tryz.zeroValue62, Tryz.sizeOf3, Tryz.sizeOf60, ea0, ea1]
theorem cub_bl_apiGoal_0_ (a0 : Value) (ha0 : a0.oneCell' = true) : ∀ w, (Instr.build 65 #[(0, a0)]).run Tryz.prog w = .ok (.agg #[a0, (.int .i64 0)]) w := by
 have ea0 : a0.cells = #[a0] := cells_one ha0
 intro w; simp [Instr.build, Instr.fill, cells_agg, Tryz.runUnderlying65, Tryz.zeroValue65, Tryz.sizeOf3, ea0]
theorem cub_bl_apiMemory_ : ∀ w, (Instr.build 69 #[]).run Tryz.prog w = .ok (.agg #[(.int .i64 0), (.int .i64 0)]) w := by
 intro w; simp [Instr.build, Instr.fill, cells_agg, Tryz.runUnderlying69, Tryz.zeroValue69, Tryz.sizeOf3]
theorem cub_bs_int_2_0_1 (a0 a1 : Value) (ha0 : a0.oneCell' = true) (ha1 : a1.oneCell' = true) : ∀ w, (Instr.buildSlice 30 2 #[(0, a0), (1, a1)]).run Tryz.prog w = .ok (.slice (some ⟨w.heap.size, 0, none⟩) 2 2) (w.alloc (.cells [a0, a1].toArray 3)) := by
 have ea0 : a0.cells = #[a0] := cells_one ha0
 have ea1 : a1.cells = #[a1] := cells_one ha1
 intro w; (simp [Instr.buildSlice, Instr.fill, cells_agg, newRow, Tryz.runUnderlying30, Tryz.zeroValue3, Tryz.sizeOf3, ea0, ea1] <;> (rw [(by kernel_rfl : Array.range 2 = #[0, 1])]; simp [Value.cells]))
set_option maxRecDepth 100000 in
theorem cub_eq_eql_apiSpan (a0 b0 : Int) (a1 b1 : Int) : ∀ w, (binOp .eql 55 (.agg #[.int .i64 a0, .int .i64 a1]) (.agg #[.int .i64 b0, .int .i64 b1])).run Tryz.prog w = .ok (.bool (decide (a0 = b0 ∧ a1 = b1))) w := by
 intro w
 have e : binOp .eql 55 (.agg #[.int .i64 a0, .int .i64 a1]) (.agg #[.int .i64 b0, .int .i64 b1]) = (do pure (.bool (← Op.equal 55 (.agg #[.int .i64 a0, .int .i64 a1]) (.agg #[.int .i64 b0, .int .i64 b1]))) : Sem Value) := rfl
 have h : ∀ w, (Op.equal 55 (.agg #[.int .i64 a0, .int .i64 a1]) (.agg #[.int .i64 b0, .int .i64 b1])).run Tryz.prog w = .ok (decide (a0 = b0 ∧ a1 = b1)) w := by
  intro w
  show (Op.equalIn 10000 55 _ _).run _ w = _
  rw [run_equalIn_struct w 9999 55 _ _ kr9 kr9]
  simp [Program.fieldsOf, Tryz.underlying55, Op.eqFields, go_sem, Tryz.underlying3, Tryz.isAgg3, Tryz.sizeOf3, str_eq]
  by_cases h0 : a0 = b0 <;> by_cases h1 : a1 = b1 <;> simp [h0, h1]
 rw [e]; simp [h]
theorem cub_bl_apiSpan_ : ∀ w, (Instr.build 55 #[]).run Tryz.prog w = .ok (.agg #[(.int .i64 0), (.int .i64 0)]) w := by
 intro w; simp [Instr.build, Instr.fill, cells_agg, Tryz.runUnderlying55, Tryz.zeroValue55, Tryz.sizeOf3]
theorem cub_bs_int_1_0_ (a0 : Value) (ha0 : a0.oneCell' = true) : ∀ w, (Instr.buildSlice 30 1 #[(0, a0)]).run Tryz.prog w = .ok (.slice (some ⟨w.heap.size, 0, none⟩) 1 1) (w.alloc (.cells [a0].toArray 3)) := by
 have ea0 : a0.cells = #[a0] := cells_one ha0
 intro w; (simp [Instr.buildSlice, Instr.fill, cells_agg, newRow, Tryz.runUnderlying30, Tryz.zeroValue3, Tryz.sizeOf3, ea0] <;> (rw [(by kernel_rfl : Array.range 1 = #[0])]; simp [Value.cells]))
set_option maxRecDepth 100000 in
theorem awake7z_any (w : World) : Calls Tryz.prog 4 #[] w (Ret (.bool true) w) := by
 refine calls_ax (vs := []) Tryz.func4 rfl rfl ?_
 refine ac_seq (ac_region ?_)
 refine al_p (q_assign rfl) (al_end (aq_then ?_))
 refine ac_seq (ac_region ?_)
 refine al_p (q_build (.cons rfl (.cons rfl (.cons rfl (.cons rfl (.cons rfl (.cons rfl .nil)))))) (cub_bl_apiCoil_0_1_3_4_5_6 _ _ _ _ _ _ rfl rfl rfl rfl rfl rfl)) (al_new (fun b => .slice (some ⟨b, 0, none⟩) 1 1) (r_buildSlice (.cons rfl .nil) (cub_bs_apiCoil_1_0_ _ _ _ _ _ _ _ _)) rfl rfl rfl ?_)
 intro b1
 refine al_p (q_build (.cons rfl .nil) (cub_bl_apiPoint_0_ _ rfl)) (al_new (fun b => .slice (some ⟨b, 0, none⟩) 1 1) (r_buildSlice (.cons rfl .nil) (cub_bs_apiPoint_1_0_ _ _)) rfl rfl rfl ?_)
 intro b2
 refine al_p (q_build (.cons rfl (.cons rfl (.cons rfl .nil))) (cub_bl_apiGrid_2_3_4 _ _ _ rfl rfl rfl)) (al_p (q_build (.cons rfl (.cons rfl (.cons rfl (.cons rfl .nil)))) (cub_bl_apiMachine_0_1_3_4 _ _ _ _ _ _ _ _ rfl rfl rfl)) (al_new (fun b => .pointer (some ⟨b, 0, none⟩)) (r_alloc Tryz.zeroValue29 rfl) rfl rfl rfl ?_))
 intro b3
 refine al_storeAll (i := 0) rfl rfl rfl rfl Tryz.sizeOf29 rfl rfl .k0 rfl (al_end (aq_then ?_))
 refine ac_seq (ac_region ?_)
 refine al_p (q_build (.cons rfl (.cons rfl .nil)) (cub_bl_apiSpan_0_1 _ _ rfl rfl)) (al_p (q_build (.cons rfl .nil) (cub_bl_apiShape_0_ _ _)) (al_new (fun b => .pointer (some ⟨b, 0, none⟩)) (r_alloc Tryz.zeroValue57 rfl) rfl rfl rfl ?_))
 intro b4
 refine al_storeAll (i := 0) rfl rfl rfl rfl Tryz.sizeOf57 rfl rfl .k0 rfl (al_end (aq_then ?_))
 refine ac_seq (ac_region ?_)
 refine al_p (q_build (.cons rfl .nil) (cub_bl_apiGain_0_ _ rfl)) (al_new (fun b => .slice (some ⟨b, 0, none⟩) 1 1) (r_buildSlice (.cons rfl .nil) (cub_bs_apiGain_1_0_ _ _ _ _)) rfl rfl rfl ?_)
 intro b5
 refine al_p (q_build (.cons rfl (.cons rfl .nil)) (cub_bl_apiSetup_0_1 _ _ rfl rfl)) (al_new (fun b => .pointer (some ⟨b, 0, none⟩)) (r_alloc Tryz.zeroValue62 rfl) rfl rfl rfl ?_)
 intro b6
 refine al_storeAll (i := 0) rfl rfl rfl rfl Tryz.sizeOf62 rfl rfl .k0 rfl (al_end (aq_then ?_))
 refine ac_seq (ac_region ?_)
 refine al_p (q_build (.cons rfl .nil) (cub_bl_apiGoal_0_ _ rfl)) (al_p (q_loadAll (i := 2) rfl rfl Tryz.isAgg57 Tryz.sizeOf57 rfl) (al_call Tryz.call12 (.cons rfl (.cons rfl .nil)) rfl rfl (fun w1 hs1 => ?_)))
 refine (errors_ex _).mono ?_
 rintro e u1 ⟨rfl, hb_1⟩
 refine ⟨_, rfl, hb_1, ?_⟩
 clear hs1
 refine al_p (q_move rfl) (al_p (q_extract rfl rfl) (al_p (q_extract rfl rfl) (al_p (q_extract rfl rfl) (al_new (fun b => .pointer (some ⟨b, 0, none⟩)) (r_alloc Tryz.zeroValue55 rfl) rfl rfl rfl ?_))))
 intro b7
 refine al_nb (r_alloc Tryz.zeroValue55 rfl) ?_
 intro b8
 refine al_storeAll (i := 1) rfl rfl rfl rfl Tryz.sizeOf55 rfl rfl .k1 rfl (al_storeAll (i := 0) rfl rfl rfl rfl Tryz.sizeOf55 rfl rfl .k0 rfl (al_p (q_assign rfl) (al_end (aq_then ?_))))
 refine ac_seq (ac_region ?_)
 refine al_p (q_loadAll (i := 5) rfl rfl Tryz.isAgg29 Tryz.sizeOf29 rfl) (al_p (q_loadAll (i := 2) rfl rfl Tryz.isAgg62 Tryz.sizeOf62 rfl) (al_p (q_build .nil (cub_bl_apiMemory_)) (al_p (q_build (.cons rfl .nil) (cub_bl_apiGoal_0_ _ rfl)) (al_p (q_loadAll (i := 4) rfl rfl Tryz.isAgg57 Tryz.sizeOf57 rfl) ?_))))
 refine al_callS Tryz.call13 (.cons rfl (.cons rfl (.cons rfl (.cons rfl (.cons rfl .nil))))) rfl rfl (fun w2 hs2 => ?_)
 have hm7 := ism_ex b1 b2 w2 (isT_box0 (n := 8) (enc := CoilD.cells) (fun _ => rfl) (hs2.at 7 rfl) rfl rfl) (isT_box0 (n := 2) (enc := PointD.cells) (fun _ => rfl) (hs2.at 6 rfl) rfl rfl)
 have hg7 : IsT 4 GainD.cells w2 (some ⟨b5, 0, none⟩) 1 [gx7] := (isT_box0 (n := 4) (enc := GainD.cells) (fun _ => rfl) (hs2.at 3 rfl) rfl rfl)
 refine (wish_ex b1 b2 b5 _ hm7 hg7).mono ?_
 rintro e u2 ⟨bw, rfl, hb_2⟩
 refine ⟨_, _, _, rfl, hs2.gift hb_2, ?_⟩
 refine al_p (q_move rfl) (al_p (q_extract rfl rfl) (al_p (q_extract rfl rfl) (al_p (q_assign rfl) (al_p (q_assign rfl) ?_))))
 refine al_end (aq_then ?_)
 refine ac_seq (ac_region ?_)
 refine al_new (fun b => .slice (some ⟨b, 0, none⟩) 2 2) (r_buildSlice (.cons rfl (.cons rfl .nil)) (cub_bs_int_2_0_1 _ _ rfl rfl)) rfl rfl rfl ?_
 intro b9
 refine al_callS Tryz.call14 (.cons rfl (.cons rfl .nil)) rfl rfl (fun w3 hs3 => ?_)
 refine (part_ex _ _ (isT_box0 (n := 1) (enc := intCells) (fun _ => rfl) (hs3.at 0 rfl) rfl rfl)).mono ?_
 rintro e u3 ⟨bp, rfl, hb_3⟩
 refine ⟨_, _, _, rfl, hs3.gift hb_3, ?_⟩
 refine al_p (q_move rfl) (al_p (q_extract rfl rfl) (al_p (q_extract rfl rfl) (al_p (q_assign rfl) (al_p (q_assign rfl) ?_))))
 refine al_end (aq_then ?_)
 refine ac_seq (ac_region ?_)
 refine al_p (q_move rfl) (al_p (q_same (v' := .bool true) (q_eql rfl rfl) rfl) (al_p (q_move rfl) (al_p (q_move rfl) (al_p (q_same (v' := .bool true) (q_eql rfl rfl) rfl) ?_))))
 refine al_p (q_pickT rfl rfl) (al_p (q_move rfl) (al_p (q_move rfl) (al_p (q_same (v' := .bool true) (q_eql rfl rfl) rfl) (al_p (q_pickT rfl rfl) ?_))))
 refine al_p (q_move rfl) (al_p (q_loadAll (i := 4) rfl rfl Tryz.isAgg55 Tryz.sizeOf55 rfl) (al_p (q_build (.cons rfl (.cons rfl .nil)) (cub_bl_apiSpan_0_1 _ _ rfl rfl)) ?_))
 refine al_p (q_same (v' := .bool true) (q_cmpS rfl rfl kr9 (cub_eq_eql_apiSpan _ _ _ _)) (by rfl)) (al_p (q_pickT rfl rfl) (al_p (q_move rfl) (al_p (q_loadAll (i := 3) rfl rfl Tryz.isAgg55 Tryz.sizeOf55 rfl) (al_p (q_build .nil (cub_bl_apiSpan_)) ?_))))
 refine al_p (q_same (v' := .bool true) (q_cmpS rfl rfl kr9 (cub_eq_eql_apiSpan _ _ _ _)) (by rfl)) (al_p (q_pickT rfl rfl) (al_p (q_move rfl) (al_p (q_move rfl) (al_new (fun b => .slice (some ⟨b, 0, none⟩) 1 1) (r_buildSlice (.cons rfl .nil) (cub_bs_int_1_0_ _ rfl)) rfl rfl rfl ?_))))
 intro b10
 refine al_call Tryz.call15 (.cons rfl (.cons rfl .nil)) rfl rfl (fun w4 hs4 => ?_)
 refine (ints_ex1 _ _ _ (isT_box0 (n := 1) (enc := intCells) (fun _ => rfl) (hs4.at 3 rfl) rfl rfl) (isT_box0 (n := 1) (enc := intCells) (fun _ => rfl) (hs4.at 0 rfl) rfl rfl)).mono ?_
 rintro e u4 ⟨rfl, hb_4⟩
 refine ⟨_, rfl, hb_4, ?_⟩
 clear hs4
 refine al_p (q_pickT rfl rfl) (al_p (q_move rfl) (al_p (q_move rfl) (al_new (fun b => .slice (some ⟨b, 0, none⟩) 2 2) (r_buildSlice (.cons rfl (.cons rfl .nil)) (cub_bs_int_2_0_1 _ _ rfl rfl)) rfl rfl rfl ?_)))
 intro b11
 refine al_call Tryz.call15 (.cons rfl (.cons rfl .nil)) rfl rfl (fun w5 hs5 => ?_)
 refine (ints_ex2 _ _ _ (isT_box0 (n := 1) (enc := intCells) (fun _ => rfl) (hs5.at 2 rfl) rfl rfl) (isT_box0 (n := 1) (enc := intCells) (fun _ => rfl) (hs5.at 0 rfl) rfl rfl)).mono ?_
 rintro e u5 ⟨rfl, hb_5⟩
 refine ⟨_, rfl, hb_5, ?_⟩
 clear hs5
 refine al_p (q_pickT rfl rfl) (al_p (q_move rfl) (al_p (q_loadAll (i := 10) rfl rfl Tryz.isAgg29 Tryz.sizeOf29 rfl) (al_p (q_loadAll (i := 7) rfl rfl Tryz.isAgg62 Tryz.sizeOf62 rfl) (al_call Tryz.call16 (.cons rfl (.cons rfl .nil)) rfl rfl (fun w6 hs6 => ?_)))))
 have hm7 := ism_ex b1 b2 w6 (isT_box0 (n := 8) (enc := CoilD.cells) (fun _ => rfl) (hs6.at 12 rfl) rfl rfl) (isT_box0 (n := 2) (enc := PointD.cells) (fun _ => rfl) (hs6.at 11 rfl) rfl rfl)
 have hg7 : IsT 4 GainD.cells w6 (some ⟨b5, 0, none⟩) 1 [gx7] := (isT_box0 (n := 4) (enc := GainD.cells) (fun _ => rfl) (hs6.at 8 rfl) rfl rfl)
 refine (setup_ex b1 b2 b5 _ hm7 hg7).mono ?_
 rintro e u6 ⟨rfl, hb_6⟩
 refine ⟨_, rfl, hb_6, ?_⟩
 clear hs6
 refine al_p (q_pickT rfl rfl) (al_p (q_assign rfl) (al_end (aq_then ?_)))
 refine aq_keepL [0] (.cons rfl .nil) ?_
 refine ac_ret (ret1 Tryz.results4 rfl (fun w9 hs => ?_))
 exact ⟨rfl, hs.below⟩
end
end Go.Proofs.YthggkidiidnaoaaGreat
