import Derived.Test.YtkhahbnagbjbiaaGreatNAW
import Derived.Test.YtkhahbnagbjbiaaGreatRows
import Derived.KernelRfl
import Derived.Laws.StructEq
import Derived.Laws.IdiomCopy
section
/- slices.Grow of nothing, slices.Concat of lists of whole numbers, over this seat's translation (written by ax_ci3.py). -/
namespace Go.Proofs.YtkhahbnagbjbiaaGreat
set_option linter.unusedVariables false
set_option linter.unusedSimpArgs false
open Go.RowKit

set_option maxRecDepth 100000 in
theorem grow_nil (n : Nat) (w : World) (hn : n ≤ 1000000) : Calls Tryz.prog 140 #[(.slice none 0 0), (.int .i64 (n : Int))] w (fun e w' => ∃ o, e = .returned (.slice (gA o) 0 (gC o)) ∧ gok o 0 1 [] ∧ Own w (gt o []) w') := by
  refine calls_ax (vs := [(.slice none 0 0), (.int .i64 (n : Int))]) Tryz.func140 rfl rfl ?_
  refine ac_seq (ac_region ?_)
  refine al_p (q_assign rfl) ?_
  refine al_end (aq_then ?_)
  refine ac_seq ?_
  refine ac_seq (ac_region ?_)
  refine al_p (q_move rfl) ?_
  refine al_p (q_lss rfl rfl) ?_
  refine al_end (aq_then ?_)
  refine ac_cond rfl (fun h1 => ?_) (fun h1 => ?_)
  · exfalso; have := of_decide_eq_true h1; omega
  · skip
    refine ac_skip ?_
    refine aq_then ?_
    refine ac_seq ?_
    refine ac_seq (ac_region ?_)
    refine al_p (q_move rfl) ?_
    refine al_p (q_move rfl) ?_
    refine al_p (q_cap rfl Tryz.runUnderlying30) ?_
    refine al_p (q_move rfl) ?_
    refine al_p (q_lenS rfl Tryz.runUnderlying30) ?_
    refine al_p (q_sub rfl rfl (by omega)) ?_
    refine al_p (q_sub rfl rfl (by omega)) ?_
    refine al_p (q_assign rfl) ?_
    refine al_end (aq_then ?_)
    refine ac_seq (ac_region ?_)
    refine al_p (q_move rfl) ?_
    refine al_p (q_gtr rfl rfl) ?_
    refine al_end (aq_then ?_)
    refine ac_cond rfl (fun h2 => ?_) (fun h2 => ?_)
    · have h0 : 0 < n := by have := of_decide_eq_true h2; omega
      refine ac_region ?_
      refine al_p (q_move rfl) ?_
      refine al_p (q_move rfl) ?_
      refine al_p (q_cap rfl Tryz.runUnderlying30) ?_
      refine al_p (q_upto (hi := 0) rfl rfl rfl (Nat.le_refl _) Tryz.underlying30 Tryz.sizeOf3) ?_
      refine al_p (q_move rfl) ?_
      refine al_appendZ (n := n) (z := 1) (bytes := 8) (zv := (.int .i64 0)) rfl rfl (by omega) h0 (.z) Tryz.underlying30 Tryz.underlying3 (by kernel_rfl) rfl rfl (by omega) (by decide) rfl rfl (fun o_1 g_1 hc_1 => ?_)
      refine ⟨_, (.z), ?_⟩
      refine al_p (q_move rfl) ?_
      refine al_p (q_lenS rfl Tryz.runUnderlying30) ?_
      refine al_p (q_upto (hi := 0) rfl rfl rfl (Nat.zero_le _) Tryz.underlying30 Tryz.sizeOf3) ?_
      refine al_p (q_assign rfl) ?_
      refine al_end (aq_then ?_)
      refine ac_seq (ac_region ?_)
      refine al_p (q_move rfl) ?_
      refine al_p (q_assign rfl) ?_
      refine al_end (aq_then ?_)
      refine ac_ret ?_
      refine ret1 Tryz.results140 rfl (fun w9 hs => ?_)
      exact ⟨o_1, rfl, g_1, by simpa using hs.defer 0⟩
    · skip
      refine ac_skip ?_
      refine aq_then ?_
      refine ac_seq (ac_region ?_)
      refine al_p (q_move rfl) ?_
      refine al_p (q_assign rfl) ?_
      refine al_end (aq_then ?_)
      refine ac_ret ?_
      refine ret1 Tryz.results140 rfl (fun w9 hs => ?_)
      exact ⟨none, rfl, gok.none 1, hs.defer 0⟩

def sl3 (r : Option Addr × Nat × Nat) : List Value := [.slice r.1 r.2.1 r.2.2]
theorem flatten_take {zss : List (List Int)} {k : Nat} {z : List Int} (h : zss[k]? = some z) : (zss.take (k + 1)).flatten = (zss.take k).flatten ++ z := by
  rw [take_snoc h, List.flatten_append]; simp
theorem flatten_take_le (zss : List (List Int)) (k : Nat) : (zss.take k).flatten.length ≤ zss.flatten.length := by
  conv => rhs; rw [← List.take_append_drop k zss, List.flatten_append, List.length_append]
  omega

set_option maxRecDepth 100000 in
theorem concat_any (A0 : Option Addr) (n c0 : Nat) (rows : List (Option Addr × Nat × Nat)) (zss : List (List Int)) (w : World) (hR : IsT 1 sl3 w A0 n rows) (hn : zss.length = n) (hI : ∀ (i : Nat) r z, rows[i]? = some r → zss[i]? = some z → IsT 1 intCells w r.1 r.2.1 z) (hm : zss.flatten.length ≤ 1000000) (hn2 : n ≤ 1000) : Calls Tryz.prog 138 #[(.slice A0 n c0)] w (fun e w' => ∃ A' c, e = .returned (.slice A' zss.flatten.length c) ∧ NewT 1 intCells w.heap.size w' A' zss.flatten.length c zss.flatten ∧ Below w.heap.size w w') := by
  refine calls_ax (vs := [(.slice A0 n c0)]) Tryz.func138 rfl rfl ?_
  refine ac_seq (ac_region ?_)
  refine al_p (q_assign rfl) ?_
  refine al_end (aq_then ?_)
  refine ac_seq (ac_region ?_)
  refine al_p (q_assign rfl) ?_
  refine al_end (aq_then ?_)
  refine ac_seq ?_
  refine ac_seq (ac_region ?_)
  refine al_p (q_move rfl) ?_
  refine al_p (q_lenS rfl Tryz.runUnderlying71) ?_
  refine al_p (q_move rfl) ?_
  refine al_end (aq_then ?_)
  refine ac_block ?_
  refine ac_loop (β := Nat) (fun x => x ≤ n) (fun x => [(0, (.slice A0 n c0)), (2, (.slice none 0 0)), (3, (.int .i64 (((zss.take x).flatten).length : Int))), (9, (.slice A0 n c0)), (10, (.int .i64 (n : Int))), (11, (.int .i64 (x : Int)))]) (fun _ => _) (fun x => []) (fun x => n - x) 0 (by omega) ⟨rfl, rfl, rfl, rfl, rfl, rfl, trivial⟩ (fun w9 hs => hs) (fun x hF1 => ?_)
  refine ac_seq (ac_region ?_)
  refine al_p (q_lss rfl rfl) ?_
  refine al_end (aq_then ?_)
  refine ac_seq ?_
  refine ac_cond rfl (fun h1 => ?_) (fun h1 => ?_)
  · have hxl : x < n := by have := of_decide_eq_true h1; omega
    obtain ⟨b01, o01, hA0, hlt0, hget0⟩ := hR.2 (by omega)
    obtain ⟨r, hr⟩ : ∃ r, rows[x]? = some r := ⟨_, List.getElem?_eq_getElem (by rw [hR.1]; exact hxl)⟩
    obtain ⟨z, hz⟩ : ∃ z, zss[x]? = some z := ⟨_, List.getElem?_eq_getElem (by omega)⟩
    have hI := hI x r z hr hz
    have hI1 := hI.1
    have hf1 := flatten_take hz
    have hf2 := flatten_take_le zss (x + 1)
    rw [hf1, List.length_append] at hf2
    refine ac_skip ?_
    refine aq_then ?_
    refine ac_seq ?_
    refine ac_block ?_
    refine ac_seq (ac_region ?_)
    refine al_p (q_indexAddrA (i := x) (o01 + x * 1 + 0) hA0 rfl rfl rfl (by omega) Tryz.runUnderlying71 Tryz.sizeOf30 rfl) ?_
    refine al_p (q_loadX rfl Tryz.isAgg30 (fun w9 hs => (hs.below.cell (p := ⟨_, _, none⟩) hlt0).trans ((hget0 x _ hr) 0 _ rfl))) ?_
    refine al_p (q_assign rfl) ?_
    refine al_end (aq_then ?_)
    refine ac_seq (ac_region ?_)
    refine al_p (q_move rfl) ?_
    refine al_p (q_move rfl) ?_
    refine al_p (q_lenS rfl Tryz.runUnderlying30) ?_
    refine al_p (q_add rfl rfl (by omega)) ?_
    refine al_p (q_assign rfl) ?_
    refine al_end (aq_then ?_)
    refine ac_seq (ac_region ?_)
    refine al_p (q_move rfl) ?_
    refine al_p (q_lss rfl rfl) ?_
    refine al_end (aq_then ?_)
    refine ac_cond rfl (fun h2 => ?_) (fun h2 => ?_)
    · exfalso; have := of_decide_eq_true h2; omega
    · skip
      refine ac_skip ?_
      refine aq_inN ?_
      refine aq_then ?_
      refine ac_region ?_
      refine al_p (q_add rfl rfl (by omega)) ?_
      refine al_p (q_move rfl) ?_
      refine al_end (aq_then ?_)
      skip
      refine aq_round (x + 1) (by omega) (by omega) ⟨rfl, rfl, (by rw [hf1, List.length_append, hI1]; rfl), rfl, rfl, rfl, trivial⟩ (fun w9 hs => hs)
  · have hxe : x = n := by have := of_decide_eq_false h1; omega
    have hfl : (zss.take x).flatten = zss.flatten := by rw [hxe, ← hn, List.take_length]
    refine ac_exit ?_
    refine aq_thenE ?_
    refine aq_thenE ?_
    refine aq_hit ?_
    refine aq_then ?_
    refine ac_seq (ac_region ?_)
    refine al_p (q_move rfl) ?_
    refine al_callS Tryz.call140 (.cons rfl (.cons rfl .nil)) rfl rfl (fun w1 hs1 => ?_)
    refine (grow_nil (zss.take x).flatten.length _ (by rw [hfl]; exact hm)).mono ?_
    rintro e u1 ⟨o_0, rfl, g_0, hb_1⟩
    refine ⟨_, _, _, rfl, hs1.giftT hb_1, ?_⟩
    refine al_p (q_assign rfl) ?_
    refine al_end (aq_then ?_)
    refine ac_seq ?_
    refine ac_seq (ac_region ?_)
    refine al_p (q_move rfl) ?_
    refine al_p (q_lenS rfl Tryz.runUnderlying71) ?_
    refine al_p (q_move rfl) ?_
    refine al_end (aq_then ?_)
    refine ac_block ?_
    refine ac_loop (β := Nat × Gr × List Value) (fun y => y.1 ≤ n ∧ gok y.2.1 ((zss.take y.1).flatten).length 1 y.2.2 ∧ y.2.2 = ((zss.take y.1).flatten).map (Value.int .i64)) (fun y => [(2, (.slice none 0 0)), (6, (.slice (gA y.2.1) ((zss.take y.1).flatten).length (gC y.2.1))), (25, (.slice A0 n c0)), (26, (.int .i64 (n : Int))), (27, (.int .i64 (y.1 : Int)))]) (fun _ => []) (fun y => (gt y.2.1 y.2.2 ++ ([]))) (fun y => n - y.1) (0, o_0, []) ⟨by simp, g_0, by simp⟩ ⟨rfl, rfl, rfl, rfl, rfl, trivial⟩ (fun w9 hs => (by rw [List.append_nil]; exact hs)) (fun y hF2 => ?_)
    obtain ⟨hyn, hgy, hcy⟩ := hF2
    refine ac_seq (ac_region ?_)
    refine al_p (q_lss rfl rfl) ?_
    refine al_end (aq_then ?_)
    refine ac_seq ?_
    refine ac_cond rfl (fun h3 => ?_) (fun h3 => ?_)
    · have hxl : y.1 < n := by have := of_decide_eq_true h3; omega
      obtain ⟨b01, o01, hA0, hlt0, hget0⟩ := hR.2 (by omega)
      obtain ⟨r, hr⟩ : ∃ r, rows[y.1]? = some r := ⟨_, List.getElem?_eq_getElem (by rw [hR.1]; exact hxl)⟩
      obtain ⟨z, hz⟩ : ∃ z, zss[y.1]? = some z := ⟨_, List.getElem?_eq_getElem (by omega)⟩
      have hI := hI y.1 r z hr hz
      have hI1 := hI.1
      have hf1 := flatten_take hz
      have hf2 := flatten_take_le zss (y.1 + 1)
      rw [hf1, List.length_append] at hf2
      refine ac_skip ?_
      refine aq_then ?_
      refine ac_seq ?_
      refine ac_block ?_
      refine ac_seq (ac_region ?_)
      refine al_p (q_indexAddrA (i := y.1) (o01 + y.1 * 1 + 0) hA0 rfl rfl rfl (by omega) Tryz.runUnderlying71 Tryz.sizeOf30 rfl) ?_
      refine al_p (q_loadX rfl Tryz.isAgg30 (fun w9 hs => (hs.below.cell (p := ⟨_, _, none⟩) hlt0).trans ((hget0 y.1 _ hr) 0 _ rfl))) ?_
      refine al_p (q_assign rfl) ?_
      refine al_end (aq_then ?_)
      refine ac_region ?_
      refine al_p (q_move rfl) ?_
      refine al_p (q_move rfl) ?_
      refine al_grow (z := 1) (bytes := 8) (zv := (.int .i64 0)) (o := y.2.1) (cs := y.2.2) (vs := (z.flatMap intCells)) rfl rfl (.z) hgy (Sor.list (enc := intCells) (zs := z) (fun _ => rfl) (fun _ => rfl) hI1 (fun w9 hs => hI.below hs.below)) Tryz.underlying30 (by kernel_rfl) rfl (by omega) (by decide) rfl rfl (fun o_1 g_1 => ?_)
      refine ⟨_, (.z), ?_⟩
      refine al_p (q_assign rfl) ?_
      refine al_end ?_
      refine aq_inN ?_
      refine aq_then ?_
      refine ac_region ?_
      refine al_p (q_add rfl rfl (by omega)) ?_
      refine al_p (q_move rfl) ?_
      refine al_end (aq_then ?_)
      skip
      refine aq_round ((y.1 + 1, o_1, y.2.2 ++ z.flatMap intCells)) (by simp only; omega) ⟨by simp only; omega, by simp only; rw [hf1, List.length_append, hI1]; exact g_1, by simp only; rw [hf1, hcy, List.map_append, flat_int]⟩ ⟨rfl, (by simp only; rw [hf1, List.length_append, hI1]; rfl), rfl, rfl, rfl, trivial⟩ (fun w9 hs => hs)
    · have hye : y.1 = n := by have := of_decide_eq_false h3; omega
      have hfl2 : (zss.take y.1).flatten = zss.flatten := by rw [hye, ← hn, List.take_length]
      refine ac_exit ?_
      refine aq_thenE ?_
      refine aq_thenE ?_
      refine aq_hit ?_
      refine aq_then ?_
      refine ac_seq (ac_region ?_)
      refine al_p (q_move rfl) ?_
      refine al_p (q_assign rfl) ?_
      refine al_end (aq_then ?_)
      refine ac_ret ?_
      refine ret1 Tryz.results138 rfl (fun w9 hs => ?_)
      rw [hfl2] at hcy hgy
      exact ⟨gA y.2.1, gC y.2.1, by rw [hfl2], hs.grown (enc := intCells) (o := y.2.1) (cs := y.2.2) (fun _ => rfl) (fun u hu => by simp [hu]) hgy (by rw [hcy, flat_int]) rfl, hs.below⟩

end Go.Proofs.YtkhahbnagbjbiaaGreat
end
section
/- Package circuit: what changes induce in the shells, over this seat's translation (written by ax_ci3.py). -/
namespace Go.Proofs.YtkhahbnagbjbiaaGreat
set_option linter.unusedVariables false
set_option linter.unusedSimpArgs false
open Go.RowKit

theorem concat2_any (A B : Option Addr) (la ca lb cb bb : Nat) (za zb : List Int) (w : World) (hB : BoxAt w bb (.cells [.slice A la ca, .slice B lb cb])) (h1 : IsT 1 intCells w A la za) (h2 : IsT 1 intCells w B lb zb) (k1 : la ≤ 1000) (k2 : lb ≤ 1000) :
    Calls Tryz.prog 138 #[.slice (some ⟨bb, 0, none⟩) 2 2] w (fun e w' => ∃ A' c, e = .returned (.slice A' (la + lb) c) ∧ NewT 1 intCells w.heap.size w' A' (la + lb) c (za ++ zb) ∧ Below w.heap.size w w') := by
  have e1 : [za, zb].flatten = za ++ zb := by simp
  have e2 : [za, zb].flatten.length = la + lb := by rw [e1, List.length_append, h1.1, h2.1]
  refine (concat_any (some ⟨bb, 0, none⟩) 2 2 [(A, la, ca), (B, lb, cb)] [za, zb] w (isT_box0 (n := 1) (enc := sl3) (fun _ => rfl) hB rfl rfl) rfl (fun i r z hr hz => ?_) (by rw [e2]; omega) (by omega)).mono ?_
  · rcases i with _ | _ | i
    · obtain rfl := Option.some.inj hr; obtain rfl := Option.some.inj hz; exact h1
    · obtain rfl := Option.some.inj hr; obtain rfl := Option.some.inj hz; exact h2
    · simp at hr
  · rintro e w' ⟨A', c, rfl, hN, hb⟩
    rw [e2, e1] at hN
    exact ⟨A', c, by rw [e2], hN, hb⟩

theorem kif_bs_LLint_2_0_1 (a0 a1 : Value) (ha0 : a0.oneCell' = true) (ha1 : a1.oneCell' = true) : ∀ w, (Instr.buildSlice 71 2 #[(0, a0), (1, a1)]).run Tryz.prog w = .ok (.slice (some ⟨w.heap.size, 0, none⟩) 2 2) (w.alloc (.cells [a0, a1].toArray 30)) := by
  have ea0 : a0.cells = #[a0] := cells_one ha0
  have ea1 : a1.cells = #[a1] := cells_one ha1
  intro w; (simp [Instr.buildSlice, Instr.fill, cells_agg, newRow, Tryz.runUnderlying71, Tryz.zeroValue30, Tryz.sizeOf30, ea0, ea1] <;> (rw [(by kernel_rfl : Array.range 2 = #[0, 1])]; simp [Value.cells]))

set_option maxRecDepth 100000 in
theorem induced_any (R : MachR) (M : MachD) (Lk : Option Addr) (cl : Nat) (rows : List (Option Addr × Nat)) (A B : Option Addr) (la ca lb cb : Nat) (co ce : List Int) (w : World) (hM : IsM w R M) (hc : checkC M = 0) (hK : IsK M w Lk R.lb rows) (i1 : IsT 1 intCells w A la co) (i2 : IsT 1 intCells w B lb ce) (l1 : la = R.la) (l2 : lb = cellN M) (d1 : ∀ y ∈ co ++ ce, -2000000 ≤ y ∧ y ≤ 2000000) : Calls Tryz.prog 128 #[(circV R M Lk cl), (.slice A la ca), (.slice B lb cb)] w (fun e w' => ∃ A' c, e = .returned (.slice A' R.lb c) ∧ NewT 1 intCells w.heap.size w' A' R.lb c (indL M co ce) ∧ Below w.heap.size w w') := by
  have n1 := hM.coils.1
  have n2 := hM.shells.1
  have n3 := cellN_bd hc
  have n4 := (sound_of hc).coils.1
  have n5 := (sound_of hc).shells.1
  refine calls_ax (vs := [(circV R M Lk cl), (.slice A la ca), (.slice B lb cb)]) Tryz.func128 rfl rfl ?_
  refine ac_seq (ac_region ?_)
  refine al_new (fun b => .pointer (some ⟨b, 0, none⟩)) (r_box rfl rfl) rfl rfl rfl ?_
  intro b1
  refine al_p (q_assign rfl) ?_
  refine al_end (aq_then ?_)
  refine ac_seq (ac_region ?_)
  refine al_p (q_move rfl) ?_
  refine al_p (q_move rfl) ?_
  refine al_new (fun b => .slice (some ⟨b, 0, none⟩) 2 2) (r_buildSlice (.cons rfl (.cons rfl .nil)) (kif_bs_LLint_2_0_1 _ _ rfl rfl)) rfl rfl rfl ?_
  intro b2
  refine al_call Tryz.call138 (.cons rfl .nil) rfl rfl (fun w1 hs1 => ?_)
  refine (concat2_any A B la ca lb cb b2 co ce _ (hs1.at 0 rfl) (i1.below hs1.below) (i2.below hs1.below) (by omega) (by omega)).mono ?_
  rintro e u1 ⟨C1, c1, rfl, N1, hb_1⟩
  refine ⟨_, rfl, hb_1, ?_⟩
  clear hs1
  refine al_p (q_assign rfl) ?_
  refine al_end (aq_then ?_)
  refine ac_seq (ac_region ?_)
  refine al_p (q_fieldAddr 0 rfl Tryz.runUnderlying73 rfl Tryz.sizeOf29 (by decide) rfl) ?_
  refine al_p (q_fieldAddr 2 rfl Tryz.runUnderlying29 rfl Tryz.sizeOf23 (by decide) rfl) ?_
  refine al_p (q_load (i := 1) rfl rfl rfl Tryz.isAgg23) ?_
  refine al_p (q_lenS rfl Tryz.runUnderlying23) ?_
  refine al_makeInts (n := R.lb) (z := (.int .i64 0)) (bytes := 8) rfl rfl rfl Tryz.underlying30 (by kernel_rfl) rfl (by omega) (by decide) rfl rfl ?_
  intro b3
  refine al_p (q_assign rfl) ?_
  refine al_end (aq_then ?_)
  refine ac_seq ?_
  refine ac_seq (ac_region ?_)
  refine al_p (q_fieldAddr 0 rfl Tryz.runUnderlying73 rfl Tryz.sizeOf29 (by decide) rfl) ?_
  refine al_p (q_fieldAddr 2 rfl Tryz.runUnderlying29 rfl Tryz.sizeOf23 (by decide) rfl) ?_
  refine al_p (q_load (i := 2) rfl rfl rfl Tryz.isAgg23) ?_
  refine al_p (q_lenS rfl Tryz.runUnderlying23) ?_
  refine al_p (q_move rfl) ?_
  refine al_end (aq_then ?_)
  refine ac_block ?_
  refine ac_loop (β := Nat) (fun x => x ≤ R.lb) (fun x => [(3, (.pointer (some ⟨b1, 0, none⟩))), (6, (.slice none 0 0)), (7, (.slice C1 (la + lb) c1)), (8, (.slice (some ⟨b3, 0, none⟩) (R.lb) (R.lb))), (25, (.slice (R.B) R.lb R.cb)), (26, (.int .i64 (R.lb : Int))), (27, (.int .i64 (x : Int)))]) (fun _ => _) (fun x => [(b3, .cells (mixC R.lb x (fun i => .int .i64 (indA M co ce i)) (fun _ => .int .i64 0))), (b2, _), (b1, _)]) (fun x => R.lb - x) 0 (by omega) ⟨rfl, rfl, rfl, rfl, rfl, rfl, rfl, trivial⟩ (fun w9 hs => (by rw [mixC_zero, ← rep_lst]; exact hs)) (fun x hF1 => ?_)
  refine ac_seq (ac_region ?_)
  refine al_p (q_lss rfl rfl) ?_
  refine al_end (aq_then ?_)
  refine ac_seq ?_
  refine ac_cond rfl (fun h1 => ?_) (fun h1 => ?_)
  · have hxl : x < R.lb := by have := of_decide_eq_true h1; omega
    obtain ⟨b31, o31, hA3, hlt3, hget3⟩ := hM.shells.2 (by omega)
    have hx3 := sA_get (M := M) (k := x) (by omega)
    obtain ⟨b41, o41, hA4, hlt4, hget4⟩ := hK.out.2 (by omega)
    obtain ⟨r, hx4⟩ : ∃ r, rows[x]? = some r := ⟨_, List.getElem?_eq_getElem (by rw [hK.out.1]; exact hxl)⟩
    have hrow := hK.row x r hx4
    have hsh := (sA_ok hc (k := x) (by omega)).self
    have htb : ∀ k, k < la + lb → -50000000000000 ≤ (termA M co ce (sA M x)) k ∧ (termA M co ce (sA M x)) k ≤ 50000000000000 := fun k hk => by
      have := mulP_bd (lk_bd hc (sA M x) k) (d1 _ (iA_mem (l := co ++ ce) (k := k) (by rw [List.length_append, i1.1, i2.1]; omega)))
      unfold termA; omega
    refine ac_skip ?_
    refine aq_then ?_
    refine ac_seq ?_
    refine ac_block ?_
    refine ac_seq (ac_region ?_)
    refine al_p (q_move rfl) ?_
    refine al_p (q_indexAddrA (i := x) (o31 + x * 4 + 0) hA3 rfl rfl rfl (by omega) Tryz.runUnderlying23 Tryz.sizeOf90 rfl) ?_
    refine al_p (q_loadXs (ShellD.cells (sA M x)) rfl Tryz.isAgg90 Tryz.sizeOf90 (fun w9 hs j9 v9 h9 => by rw [addr_add]; exact (hs.below.cell (p := ⟨_, _, none⟩) hlt3).trans ((hget3 x _ hx3) j9 v9 h9)) rfl) ?_
    refine al_new (fun b => .pointer (some ⟨b, 0, none⟩)) (r_alloc Tryz.zeroValue90 rfl) rfl rfl rfl ?_
    intro b4
    refine al_p (q_assign rfl) ?_
    refine al_storeAll (i := 0) rfl rfl rfl rfl Tryz.sizeOf90 rfl rfl .k0 rfl ?_
    refine al_end (aq_then ?_)
    refine ac_seq (ac_region ?_)
    refine al_p (q_assign rfl) ?_
    refine al_end (aq_then ?_)
    refine ac_seq ?_
    refine ac_seq (ac_region ?_)
    refine al_p (q_move rfl) ?_
    refine al_p (q_lenS rfl Tryz.runUnderlying30) ?_
    refine al_p (q_move rfl) ?_
    refine al_end (aq_then ?_)
    refine ac_block ?_
    refine ac_loop (β := Nat) (fun y => y ≤ la + lb) (fun y => [(3, (.pointer (some ⟨b1, 0, none⟩))), (6, (.slice none 0 0)), (7, (.slice C1 (la + lb) c1)), (8, (.slice (some ⟨b3, 0, none⟩) (R.lb) (R.lb))), (9, (.int .i64 (x : Int))), (10, (.pointer (some ⟨b4, 0, none⟩))), (11, (.int .i64 (dotTo (termA M co ce (sA M x)) y))), (25, (.slice (R.B) R.lb R.cb)), (26, (.int .i64 (R.lb : Int))), (27, (.int .i64 (x : Int))), (29, (.int .i64 (x : Int))), (30, (.pointer (some ⟨b31, o31 + x * 4 + 0, none⟩))), (32, (.slice C1 (la + lb) c1)), (33, (.int .i64 ((la + lb) : Int))), (34, (.int .i64 (y : Int)))]) (fun _ => _) (fun y => [(b4, _), (b3, _), (b2, _), (b1, _)]) (fun y => la + lb - y) 0 (by omega) ⟨rfl, rfl, rfl, rfl, rfl, rfl, rfl, rfl, rfl, rfl, rfl, rfl, rfl, rfl, rfl, trivial⟩ (fun w9 hs => hs) (fun y hF2 => ?_)
    refine ac_seq (ac_region ?_)
    refine al_p (q_lss rfl rfl) ?_
    refine al_end (aq_then ?_)
    refine ac_seq ?_
    refine ac_cond rfl (fun h2 => ?_) (fun h2 => ?_)
    · have hyl : y < la + lb := by have := of_decide_eq_true h2; omega
      obtain ⟨b61, o61, hA6, hlt6, hget6⟩ := N1.isT.2 (by omega)
      have hx6 := iA_get (l := co ++ ce) (k := y) (by rw [List.length_append, i1.1, i2.1]; omega)
      obtain ⟨b51, o51, hA5, hlt5, hget5⟩ := hrow.2 (by unfold rowN; omega)
      have hx5 : (rowM M x)[y]? = some (lkA M (sA M x) y) := lst_get _ (by omega)
      have e1 := htb y hyl
      unfold termA at e1
      have e2 := dotTo_bd (f := (termA M co ce (sA M x))) (B := 50000000000000) y (fun k hk => htb k (by omega))
      refine ac_skip ?_
      refine aq_then ?_
      refine ac_seq ?_
      refine ac_block ?_
      refine ac_seq (ac_region ?_)
      refine al_p (q_move rfl) ?_
      refine al_p (q_indexAddrA (i := y) (o61 + y * 1 + 0) hA6 rfl rfl rfl (by omega) Tryz.runUnderlying30 Tryz.sizeOf3 rfl) ?_
      refine al_p (q_loadX rfl Tryz.isAgg3 (fun w9 hs => (hs.cellOf (.head _) (N1.new _ _ hA6) hlt6 (hget6 y _ hx6 0 _ rfl)))) ?_
      refine al_p (q_assign rfl) ?_
      refine al_p (q_assign rfl) ?_
      refine al_end (aq_then ?_)
      refine ac_region ?_
      refine al_p (q_move rfl) ?_
      refine al_p (q_fieldAddr 10 rfl Tryz.runUnderlying73 rfl Tryz.sizeOf71 (by decide) rfl) ?_
      refine al_p (q_load (i := 3) rfl rfl rfl Tryz.isAgg71) ?_
      refine al_p (q_move rfl) ?_
      refine al_p (q_indexAddrA (i := x) (o41 + x * 1 + 0) hA4 rfl rfl rfl (by omega) Tryz.runUnderlying71 Tryz.sizeOf30 rfl) ?_
      refine al_p (q_loadX rfl Tryz.isAgg30 (fun w9 hs => (hs.below.cell (p := ⟨_, _, none⟩) hlt4).trans ((hget4 x _ hx4) 0 _ rfl))) ?_
      refine al_p (q_move rfl) ?_
      refine al_p (q_indexAddrA (i := y) (o51 + y * 1 + 0) hA5 rfl rfl rfl (by unfold rowN; omega) Tryz.runUnderlying30 Tryz.sizeOf3 rfl) ?_
      refine al_p (q_loadX rfl Tryz.isAgg3 (fun w9 hs => (hs.below.cell (p := ⟨_, _, none⟩) hlt5).trans ((hget5 y _ hx5) 0 _ rfl))) ?_
      refine al_p (q_move rfl) ?_
      refine al_p (q_mul rfl rfl (by omega)) ?_
      refine al_p (q_add rfl rfl (by omega)) ?_
      refine al_p (q_assign rfl) ?_
      refine al_end ?_
      refine aq_inN ?_
      refine aq_then ?_
      refine ac_region ?_
      refine al_p (q_add rfl rfl (by omega)) ?_
      refine al_p (q_move rfl) ?_
      refine al_end (aq_then ?_)
      skip
      refine aq_round (y + 1) (by omega) (by omega) ⟨rfl, rfl, rfl, rfl, rfl, rfl, rfl, rfl, rfl, rfl, rfl, rfl, rfl, rfl, rfl, trivial⟩ (fun w9 hs => hs)
    · have hye : y = la + lb := by have := of_decide_eq_false h2; omega
      have e2 := dotTo_bd (f := (termA M co ce (sA M x))) (B := 50000000000000) y (fun k hk => htb k (by omega))
      have hval : (dotTo (termA M co ce (sA M x)) y).tdiv (sA M x).self = indA M co ce x := by unfold indA; rw [hye, l1, l2, n1]
      refine ac_exit ?_
      refine aq_thenE ?_
      refine aq_thenE ?_
      refine aq_hit ?_
      refine aq_then ?_
      refine ac_region ?_
      refine al_p (q_move rfl) ?_
      refine al_p (q_move rfl) ?_
      refine al_p (q_move rfl) ?_
      refine al_p (q_fieldAddr 2 rfl Tryz.runUnderlying90 rfl Tryz.sizeOf3 (by decide) rfl) ?_
      refine al_p (q_load (i := 0) rfl rfl rfl Tryz.isAgg3) ?_
      refine al_p (q_quo rfl rfl (by omega)) ?_
      refine al_p (q_indexAddr (i := x) (x) rfl rfl rfl hxl Tryz.runUnderlying30 Tryz.sizeOf3 (by omega)) ?_
      refine al_store1 (i := 1) rfl rfl rfl rfl Tryz.sizeOf3 (SetAt.ofSet (by rw [mixC_len]; exact hxl)) .k1 rfl ?_
      refine al_end ?_
      refine aq_inN ?_
      refine aq_then ?_
      refine ac_region ?_
      refine al_p (q_add rfl rfl (by omega)) ?_
      refine al_p (q_move rfl) ?_
      refine al_end (aq_then ?_)
      skip
      refine aq_round (x + 1) (by omega) (by omega) ⟨rfl, rfl, rfl, rfl, rfl, rfl, rfl, trivial⟩ (fun w9 hs => (by have h9 := (hs.tail 1 rfl); rw [hval, mixC_set R.lb x _ _ hxl] at h9; exact h9))
  · have hxe : x = R.lb := by have := of_decide_eq_false h1; omega
    refine ac_exit ?_
    refine aq_thenE ?_
    refine aq_thenE ?_
    refine aq_hit ?_
    refine aq_then ?_
    refine ac_seq (ac_region ?_)
    refine al_p (q_move rfl) ?_
    refine al_p (q_assign rfl) ?_
    refine al_end (aq_then ?_)
    refine ac_ret ?_
    refine ret1 Tryz.results128 rfl (fun w9 hs => ?_)
    rw [hxe, mixC_all] at hs
    exact ⟨some ⟨b3, 0, none⟩, R.lb, rfl, by rw [indL, n2]; exact new_lst hs (i := 0) rfl (by omega), hs.below⟩

end Go.Proofs.YtkhahbnagbjbiaaGreat
end
section
/- slices.Clone of whole numbers and truths; clone of a state, over this seat's translation (written by ax_ci4.py). -/
namespace Go.Proofs.YtkhahbnagbjbiaaGreat
set_option linter.unusedVariables false
set_option linter.unusedSimpArgs false
open Go.RowKit

set_option maxRecDepth 100000 in
theorem cloneI_nil (n c : Nat) (zs : List Int) (w : World) (hI : IsT 1 intCells w none n zs) : Calls Tryz.prog 103 #[(.slice none n c)] w (fun e w' => ∃ o, e = .returned (.slice (gA o) n (gC o)) ∧ gok o n 1 (zs.flatMap intCells) ∧ Own w (gt o (zs.flatMap intCells)) w') := by
  refine calls_ax (vs := [(.slice none n c)]) Tryz.func103 rfl rfl ?_
  refine ac_seq (ac_region ?_)
  refine al_p (q_assign rfl) ?_
  refine al_end (aq_then ?_)
  refine ac_seq ?_
  refine ac_seq (ac_region ?_)
  refine al_p (q_move rfl) ?_
  refine al_p (q_eqlNil0 rfl Tryz.underlying30) ?_
  refine al_end (aq_then ?_)
  refine ac_condT rfl ?_
  refine ac_seq (ac_region ?_)
  refine al_p (q_assign rfl) ?_
  refine al_end (aq_then ?_)
  refine ac_ret ?_
  refine aq_thenR ?_
  refine ret1 Tryz.results103 rfl (fun w9 hs => ?_)
  have h0 : n = 0 := by
    rcases Nat.eq_zero_or_pos n with h | h
    · exact h
    · obtain ⟨b, o, e, _⟩ := hI.2 h; cases e
  subst h0
  have hz : zs = [] := List.length_eq_zero_iff.1 hI.1
  subst hz
  exact ⟨none, rfl, gok.none 1, hs.defer 0⟩

theorem kig_bs_int_0_ : ∀ w, (Instr.buildSlice 30 0 #[]).run Tryz.prog w = .ok (.slice (some ⟨w.heap.size, 0, none⟩) 0 0) (w.alloc (.cells [].toArray 3)) := by
  intro w; (simp [Instr.buildSlice, Instr.fill, cells_agg, newRow, Tryz.runUnderlying30, Tryz.zeroValue3, Tryz.sizeOf3] <;> (rw [(by kernel_rfl : Array.range 0 = #[])]; simp [Value.cells]))

set_option maxRecDepth 100000 in
theorem cloneI_some (A : Addr) (n c : Nat) (zs : List Int) (w : World) (hI : IsT 1 intCells w (some A) n zs) (hn : n ≤ 1000000) : Calls Tryz.prog 103 #[(.slice (some A) n c)] w (fun e w' => ∃ o, e = .returned (.slice (gA o) n (gC o)) ∧ gok o n 1 (zs.flatMap intCells) ∧ Own w (gt o (zs.flatMap intCells)) w') := by
  refine calls_ax (vs := [(.slice (some A) n c)]) Tryz.func103 rfl rfl ?_
  refine ac_seq (ac_region ?_)
  refine al_p (q_assign rfl) ?_
  refine al_end (aq_then ?_)
  refine ac_seq ?_
  refine ac_seq (ac_region ?_)
  refine al_p (q_move rfl) ?_
  refine al_p (q_eqlNil1 rfl Tryz.underlying30) ?_
  refine al_end (aq_then ?_)
  refine ac_condF rfl ?_
  refine ac_skip ?_
  refine aq_then ?_
  refine ac_seq (ac_region ?_)
  refine al_new (fun b => .slice (some ⟨b, 0, none⟩) 0 0) (r_buildSlice .nil (kig_bs_int_0_)) rfl rfl rfl ?_
  intro b1
  refine al_p (q_move rfl) ?_
  refine al_appendS (i := 0) (z := 1) (bytes := 8) (zv := (.int .i64 0)) (xs := []) (sp := []) (vs := (zs.flatMap intCells)) rfl rfl rfl rfl (by omega) (by omega) rfl (Sor.list (enc := intCells) (zs := zs) (fun _ => rfl) (fun _ => rfl) hI.1 (fun w9 hs => hI.below hs.below)) Tryz.underlying30 (by kernel_rfl) rfl (by omega) (by decide) rfl rfl (fun b2 c_b2 sp_b2 hc_b2 hk_b2 hl_b2 => ?_)
  refine ⟨_, .k0, ?_⟩
  refine al_p (q_assign rfl) ?_
  refine al_end (aq_then ?_)
  refine ac_ret ?_
  refine ret1 Tryz.results103 rfl (fun w9 hs => ?_)
  refine ⟨some (b2, c_b2, sp_b2), by rw [Nat.zero_add]; rfl, ⟨by rw [flatMap_len (z := 1) _ (fun _ => rfl), hI.1], (fun e => by cases e), fun b c sp e => by cases e; rw [Nat.zero_add] at hc_b2 hl_b2; exact ⟨hc_b2, hk_b2, hl_b2⟩⟩, by simpa [gt] using hs.defer 0⟩

theorem cloneI_any (A : Option Addr) (n c : Nat) (zs : List Int) (w : World) (hI : IsT 1 intCells w A n zs) (hn : n ≤ 1000000) : Calls Tryz.prog 103 #[.slice A n c] w (fun e w' => ∃ o, e = .returned (.slice (gA o) n (gC o)) ∧ gok o n 1 (zs.flatMap intCells) ∧ Own w (gt o (zs.flatMap intCells)) w') := by
  cases A with
  | none => exact cloneI_nil n c zs w hI
  | some A => exact cloneI_some A n c zs w hI hn

set_option maxRecDepth 100000 in
theorem cloneB_nil (n c : Nat) (zs : List Bool) (w : World) (hI : IsT 1 boolCells w none n zs) : Calls Tryz.prog 104 #[(.slice none n c)] w (fun e w' => ∃ o, e = .returned (.slice (gA o) n (gC o)) ∧ gok o n 1 (zs.flatMap boolCells) ∧ Own w (gt o (zs.flatMap boolCells)) w') := by
  refine calls_ax (vs := [(.slice none n c)]) Tryz.func104 rfl rfl ?_
  refine ac_seq (ac_region ?_)
  refine al_p (q_assign rfl) ?_
  refine al_end (aq_then ?_)
  refine ac_seq ?_
  refine ac_seq (ac_region ?_)
  refine al_p (q_move rfl) ?_
  refine al_p (q_eqlNil0 rfl Tryz.underlying33) ?_
  refine al_end (aq_then ?_)
  refine ac_condT rfl ?_
  refine ac_seq (ac_region ?_)
  refine al_p (q_assign rfl) ?_
  refine al_end (aq_then ?_)
  refine ac_ret ?_
  refine aq_thenR ?_
  refine ret1 Tryz.results104 rfl (fun w9 hs => ?_)
  have h0 : n = 0 := by
    rcases Nat.eq_zero_or_pos n with h | h
    · exact h
    · obtain ⟨b, o, e, _⟩ := hI.2 h; cases e
  subst h0
  have hz : zs = [] := List.length_eq_zero_iff.1 hI.1
  subst hz
  exact ⟨none, rfl, gok.none 1, hs.defer 0⟩

theorem kig_bs_bool_0_ : ∀ w, (Instr.buildSlice 33 0 #[]).run Tryz.prog w = .ok (.slice (some ⟨w.heap.size, 0, none⟩) 0 0) (w.alloc (.cells [].toArray 4)) := by
  intro w; (simp [Instr.buildSlice, Instr.fill, cells_agg, newRow, Tryz.runUnderlying33, Tryz.zeroValue4, Tryz.sizeOf4] <;> (rw [(by kernel_rfl : Array.range 0 = #[])]; simp [Value.cells]))

set_option maxRecDepth 100000 in
theorem cloneB_some (A : Addr) (n c : Nat) (zs : List Bool) (w : World) (hI : IsT 1 boolCells w (some A) n zs) (hn : n ≤ 1000000) : Calls Tryz.prog 104 #[(.slice (some A) n c)] w (fun e w' => ∃ o, e = .returned (.slice (gA o) n (gC o)) ∧ gok o n 1 (zs.flatMap boolCells) ∧ Own w (gt o (zs.flatMap boolCells)) w') := by
  refine calls_ax (vs := [(.slice (some A) n c)]) Tryz.func104 rfl rfl ?_
  refine ac_seq (ac_region ?_)
  refine al_p (q_assign rfl) ?_
  refine al_end (aq_then ?_)
  refine ac_seq ?_
  refine ac_seq (ac_region ?_)
  refine al_p (q_move rfl) ?_
  refine al_p (q_eqlNil1 rfl Tryz.underlying33) ?_
  refine al_end (aq_then ?_)
  refine ac_condF rfl ?_
  refine ac_skip ?_
  refine aq_then ?_
  refine ac_seq (ac_region ?_)
  refine al_new (fun b => .slice (some ⟨b, 0, none⟩) 0 0) (r_buildSlice .nil (kig_bs_bool_0_)) rfl rfl rfl ?_
  intro b1
  refine al_p (q_move rfl) ?_
  refine al_appendS (i := 0) (z := 1) (bytes := 1) (zv := (.bool false)) (xs := []) (sp := []) (vs := (zs.flatMap boolCells)) rfl rfl rfl rfl (by omega) (by omega) rfl (Sor.list (enc := boolCells) (zs := zs) (fun _ => rfl) (fun _ => rfl) hI.1 (fun w9 hs => hI.below hs.below)) Tryz.underlying33 (by kernel_rfl) rfl (by omega) (by decide) rfl rfl (fun b2 c_b2 sp_b2 hc_b2 hk_b2 hl_b2 => ?_)
  refine ⟨_, .k0, ?_⟩
  refine al_p (q_assign rfl) ?_
  refine al_end (aq_then ?_)
  refine ac_ret ?_
  refine ret1 Tryz.results104 rfl (fun w9 hs => ?_)
  refine ⟨some (b2, c_b2, sp_b2), by rw [Nat.zero_add]; rfl, ⟨by rw [flatMap_len (z := 1) _ (fun _ => rfl), hI.1], (fun e => by cases e), fun b c sp e => by cases e; rw [Nat.zero_add] at hc_b2 hl_b2; exact ⟨hc_b2, hk_b2, hl_b2⟩⟩, by simpa [gt] using hs.defer 0⟩

theorem cloneB_any (A : Option Addr) (n c : Nat) (zs : List Bool) (w : World) (hI : IsT 1 boolCells w A n zs) (hn : n ≤ 1000000) : Calls Tryz.prog 104 #[.slice A n c] w (fun e w' => ∃ o, e = .returned (.slice (gA o) n (gC o)) ∧ gok o n 1 (zs.flatMap boolCells) ∧ Own w (gt o (zs.flatMap boolCells)) w') := by
  cases A with
  | none => exact cloneB_nil n c zs w hI
  | some A => exact cloneB_some A n c zs w hI hn

/-- the five lists of a state that was made: the newest first -/
abbrev fiveT (o1 o2 o3 o4 o5 : Gr) (c1 c2 c3 c4 c5 : List Value) : Boxes := gt o5 c5 ++ (gt o4 c4 ++ (gt o3 c3 ++ (gt o2 c2 ++ (gt o1 c1 ++ []))))
abbrev fiveV (n : Int) (o1 o2 o3 o4 o5 : Gr) (n1 n2 n3 n4 n5 : Nat) : Value := .agg #[.int .i64 n, .slice (gA o1) n1 (gC o1), .slice (gA o2) n2 (gC o2), .slice (gA o3) n3 (gC o3), .slice (gA o4) n4 (gC o4), .slice (gA o5) n5 (gC o5)]

theorem kig_bl_apiCurrents_0_1_2 (a0 a1 a2 : Value) (ha0 : a0.oneCell' = true) (ha1 : a1.oneCell' = true) (ha2 : a2.oneCell' = true) : ∀ w, (Instr.build 32 #[(0, a0), (1, a1), (2, a2)]).run Tryz.prog w = .ok (.agg #[a0, a1, a2]) w := by
  have ea0 : a0.cells = #[a0] := cells_one ha0
  have ea1 : a1.cells = #[a1] := cells_one ha1
  have ea2 : a2.cells = #[a2] := cells_one ha2
  intro w; simp [Instr.build, Instr.fill, cells_agg, Tryz.runUnderlying32, Tryz.zeroValue32, Tryz.sizeOf30, ea0, ea1, ea2]

set_option maxRecDepth 100000 in
theorem cloneS_any (RS : StR) (S : StD) (w : World) (hS : IsS w RS S) (k1 : RS.Q.la ≤ 1000) (k2 : RS.Q.lb ≤ 1000) (k3 : RS.Q.lc ≤ 1000) (k4 : RS.lh ≤ 1000) (k5 : RS.lt ≤ 1000) : Calls Tryz.prog 67 #[(RS.v S.tick)] w (fun e w' => ∃ o_1 o_2 o_3 o_4 o_5, e = .returned (fiveV S.tick o_1 o_2 o_3 o_4 o_5 RS.Q.la RS.Q.lb RS.Q.lc RS.lh RS.lt) ∧ (gok o_1 RS.Q.la 1 (S.C.coils.flatMap intCells) ∧ gok o_2 RS.Q.lb 1 (S.C.shells.flatMap intCells) ∧ gok o_3 RS.Q.lc 1 (S.C.plasma.flatMap intCells) ∧ gok o_4 RS.lh 1 (S.heat.flatMap intCells) ∧ gok o_5 RS.lt 1 (S.trip.flatMap boolCells)) ∧ Own w (fiveT o_1 o_2 o_3 o_4 o_5 (S.C.coils.flatMap intCells) (S.C.shells.flatMap intCells) (S.C.plasma.flatMap intCells) (S.heat.flatMap intCells) (S.trip.flatMap boolCells)) w') := by
  refine calls_ax (vs := [(RS.v S.tick)]) Tryz.func67 rfl rfl ?_
  refine ac_seq (ac_region ?_)
  refine al_new (fun b => .pointer (some ⟨b, 0, none⟩)) (r_box rfl rfl) rfl rfl rfl ?_
  intro b1
  refine al_new (fun b => .pointer (some ⟨b, 0, none⟩)) (r_alloc Tryz.zeroValue35 rfl) rfl rfl rfl ?_
  intro b2
  refine al_end (aq_then ?_)
  refine ac_seq ?_
  refine ac_drawF 14 (.s (.s .z)) (by kernel_rfl) (by kernel_rfl) ?_
  refine ah_t 0 (fun w9 hs => (hs.front (.s (.s (.z))))) rfl rfl (by kernel_rfl) (q_fieldAddr 1 rfl Tryz.runUnderlying35 rfl Tryz.sizeOf32 (by decide) rfl) ?_
  refine ah_t 1 (fun w9 hs => (hs.front (.s (.s (.z))))) rfl rfl (by kernel_rfl) (q_fieldAddr 1 rfl Tryz.runUnderlying32 rfl Tryz.sizeOf30 (by decide) rfl) ?_
  refine ah_t 2 (fun w9 hs => (hs.front (.s (.s (.z))))) rfl rfl (by kernel_rfl) (q_load (i := 1) rfl rfl rfl Tryz.isAgg30) ?_
  refine ah_t 4 (fun w9 hs => (hs.front (.s (.s (.z))))) rfl rfl (by kernel_rfl) (q_fieldAddr 1 rfl Tryz.runUnderlying35 rfl Tryz.sizeOf32 (by decide) rfl) ?_
  refine ah_t 5 (fun w9 hs => (hs.front (.s (.s (.z))))) rfl rfl (by kernel_rfl) (q_fieldAddr 2 rfl Tryz.runUnderlying32 rfl Tryz.sizeOf30 (by decide) rfl) ?_
  refine ah_t 6 (fun w9 hs => (hs.front (.s (.s (.z))))) rfl rfl (by kernel_rfl) (q_load (i := 1) rfl rfl rfl Tryz.isAgg30) ?_
  refine ah_t 8 (fun w9 hs => (hs.front (.s (.s (.z))))) rfl rfl (by kernel_rfl) (q_fieldAddr 1 rfl Tryz.runUnderlying35 rfl Tryz.sizeOf32 (by decide) rfl) ?_
  refine ah_t 9 (fun w9 hs => (hs.front (.s (.s (.z))))) rfl rfl (by kernel_rfl) (q_fieldAddr 3 rfl Tryz.runUnderlying32 rfl Tryz.sizeOf30 (by decide) rfl) ?_
  refine ah_t 10 (fun w9 hs => (hs.front (.s (.s (.z))))) rfl rfl (by kernel_rfl) (q_load (i := 1) rfl rfl rfl Tryz.isAgg30) ?_
  refine ah_one 3 rfl (by kernel_rfl) (fun hok1 hcl1 => ?_)
  refine al_callS Tryz.call103 (.cons rfl .nil) rfl rfl (fun w1 hs1 => ?_)
  refine (cloneI_any RS.Q.A RS.Q.la RS.Q.ca S.C.coils _ (hS.cur.coils.below hs1.below) (by omega)).mono ?_
  rintro e u1 ⟨o_1, rfl, g_1, hb_1⟩
  refine ⟨_, _, _, rfl, hs1.giftF (.s (.s (.z))) hb_1 (.s (.s (.z))), ?_⟩
  refine al_end (ah_back hok1 hcl1 (fun w9 hs => (hs.front (.s (.s (.z))))) ?_)
  refine ah_one 7 rfl (by kernel_rfl) (fun hok2 hcl2 => ?_)
  refine al_callS Tryz.call103 (.cons rfl .nil) rfl rfl (fun w2 hs2 => ?_)
  refine (cloneI_any RS.Q.B RS.Q.lb RS.Q.cb S.C.shells _ (hS.cur.shells.below hs2.below) (by omega)).mono ?_
  rintro e u2 ⟨o_2, rfl, g_2, hb_2⟩
  refine ⟨_, _, _, rfl, hs2.giftF (.s (.s (.z))) hb_2 (.s (.s (.z))), ?_⟩
  refine al_end (ah_back hok2 hcl2 (fun w9 hs => (hs.front (.s (.s (.z))))) ?_)
  refine ah_one 11 rfl (by kernel_rfl) (fun hok3 hcl3 => ?_)
  refine al_callS Tryz.call103 (.cons rfl .nil) rfl rfl (fun w3 hs3 => ?_)
  refine (cloneI_any RS.Q.C RS.Q.lc RS.Q.cc S.C.plasma _ (hS.cur.plasma.below hs3.below) (by omega)).mono ?_
  rintro e u3 ⟨o_3, rfl, g_3, hb_3⟩
  refine ⟨_, _, _, rfl, hs3.giftF (.s (.s (.z))) hb_3 (.s (.s (.z))), ?_⟩
  refine al_end (ah_back hok3 hcl3 (fun w9 hs => (hs.front (.s (.s (.z))))) ?_)
  refine ah_t 12 (fun w9 hs => (hs.front (.s (.s (.z))))) rfl rfl (by kernel_rfl) (q_build (.cons rfl (.cons rfl (.cons rfl .nil))) (kig_bl_apiCurrents_0_1_2 _ _ _ rfl rfl rfl)) ?_
  refine ah_t 13 (fun w9 hs => (hs.front (.s (.s (.z))))) rfl rfl (by kernel_rfl) (q_fieldAddr 1 rfl Tryz.runUnderlying35 rfl Tryz.sizeOf32 (by decide) rfl) ?_
  refine ah_one 14 rfl (by kernel_rfl) (fun hok4 hcl4 => ?_)
  refine al_storeSub (i := 1) rfl rfl rfl Tryz.sizeOf32 rfl (.s (.z (.s (.s (.s (.z)))))) rfl .k1 rfl ?_
  refine al_end (ah_last (by kernel_rfl) ?_)
  refine aq_then ?_
  refine ac_seq (ac_region ?_)
  refine al_p (q_fieldAddr 4 rfl Tryz.runUnderlying35 rfl Tryz.sizeOf30 (by decide) rfl) ?_
  refine al_p (q_load (i := 1) rfl rfl rfl Tryz.isAgg30) ?_
  refine al_callS Tryz.call103 (.cons rfl .nil) rfl rfl (fun w4 hs4 => ?_)
  refine (cloneI_any RS.H RS.lh RS.ch S.heat _ (hS.heat.below hs4.below) (by omega)).mono ?_
  rintro e u4 ⟨o_4, rfl, g_4, hb_4⟩
  refine ⟨_, _, _, rfl, hs4.giftF (.s (.s (.z))) hb_4 (.s (.s (.z))), ?_⟩
  refine al_p (q_fieldAddr 4 rfl Tryz.runUnderlying35 rfl Tryz.sizeOf30 (by decide) rfl) ?_
  refine al_store1 (i := 1) rfl rfl rfl rfl Tryz.sizeOf30 .k4 .k1 rfl ?_
  refine al_end (aq_then ?_)
  refine ac_seq (ac_region ?_)
  refine al_p (q_fieldAddr 5 rfl Tryz.runUnderlying35 rfl Tryz.sizeOf33 (by decide) rfl) ?_
  refine al_p (q_load (i := 1) rfl rfl rfl Tryz.isAgg33) ?_
  refine al_callS Tryz.call104 (.cons rfl .nil) rfl rfl (fun w5 hs5 => ?_)
  refine (cloneB_any RS.T RS.lt RS.ct S.trip _ (hS.trip.below hs5.below) (by omega)).mono ?_
  rintro e u5 ⟨o_5, rfl, g_5, hb_5⟩
  refine ⟨_, _, _, rfl, hs5.giftF (.s (.s (.z))) hb_5 (.s (.s (.z))), ?_⟩
  refine al_p (q_fieldAddr 5 rfl Tryz.runUnderlying35 rfl Tryz.sizeOf33 (by decide) rfl) ?_
  refine al_store1 (i := 1) rfl rfl rfl rfl Tryz.sizeOf33 .k5 .k1 rfl ?_
  refine al_end (aq_then ?_)
  refine ac_seq (ac_region ?_)
  refine al_p (q_loadAll (i := 1) rfl rfl Tryz.isAgg35 Tryz.sizeOf35 rfl) ?_
  refine al_storeAll (i := 0) rfl rfl rfl rfl Tryz.sizeOf35 rfl rfl .k0 rfl ?_
  refine al_end (aq_then ?_)
  refine ac_ret ?_
  refine retR Tryz.results67 (.agg (i := 0) rfl rfl Tryz.isAgg35 Tryz.sizeOf35 rfl .nil) .one (fun w9 hs => ?_)
  exact ⟨o_1, o_2, o_3, o_4, o_5, rfl, ⟨g_1, g_2, g_3, g_4, g_5⟩, ((hs.tail 2 rfl).defer 0)⟩

abbrev boolsF (l : List Bool) (j : Nat) : Value := .bool (bA l j)
theorem ints_lst {l : List Int} {n : Nat} (h : l.length = n) : l.flatMap intCells = lst n (intsF l) := by
  subst h
  conv => lhs; rw [list_lst l]
  exact lst_ints _ _
theorem bools_lst {l : List Bool} {n : Nat} (h : l.length = n) : l.flatMap boolCells = lst n (boolsF l) := by
  subst h
  conv => lhs; rw [listB_lst l]
  exact lst_bools _ _
structure AfS where
  (b : Nat) (o1 o2 o3 o4 o5 : Gr)
structure AfF (RS : StR) (S : StD) (x : AfS) : Prop where
  g1 : gok x.o1 RS.Q.la 1 (lst RS.Q.la (intsF S.C.coils))
  g2 : gok x.o2 RS.Q.lb 1 (lst RS.Q.lb (intsF S.C.shells))
  g3 : gok x.o3 RS.Q.lc 1 (lst RS.Q.lc (intsF S.C.plasma))
  g4 : gok x.o4 RS.lh 1 (lst RS.lh (intsF S.heat))
  g5 : gok x.o5 RS.lt 1 (lst RS.lt (boolsF S.trip))
theorem cloneL_any (RS : StR) (S : StD) (w : World) (hS : IsS w RS S) (k1 : RS.Q.la ≤ 1000) (k2 : RS.Q.lb ≤ 1000) (k3 : RS.Q.lc ≤ 1000) (k4 : RS.lh ≤ 1000) (k5 : RS.lt ≤ 1000) : Calls Tryz.prog 67 #[RS.v S.tick] w (fun e w' => ∃ o_1 o_2 o_3 o_4 o_5, e = .returned (fiveV S.tick o_1 o_2 o_3 o_4 o_5 RS.Q.la RS.Q.lb RS.Q.lc RS.lh RS.lt) ∧ (∀ b, AfF RS S ⟨b, o_1, o_2, o_3, o_4, o_5⟩) ∧ Own w (fiveT o_1 o_2 o_3 o_4 o_5 (lst RS.Q.la (intsF S.C.coils)) (lst RS.Q.lb (intsF S.C.shells)) (lst RS.Q.lc (intsF S.C.plasma)) (lst RS.lh (intsF S.heat)) (lst RS.lt (boolsF S.trip))) w') := by
  refine (cloneS_any RS S w hS k1 k2 k3 k4 k5).mono ?_
  rintro e w' ⟨o1, o2, o3, o4, o5, rfl, ⟨g1, g2, g3, g4, g5⟩, hO⟩
  rw [ints_lst hS.cur.coils.1] at g1
  rw [ints_lst hS.cur.shells.1] at g2
  rw [ints_lst hS.cur.plasma.1] at g3
  rw [ints_lst hS.heat.1] at g4
  rw [bools_lst hS.trip.1] at g5
  rw [ints_lst hS.cur.coils.1, ints_lst hS.cur.shells.1, ints_lst hS.cur.plasma.1, ints_lst hS.heat.1, bools_lst hS.trip.1] at hO
  exact ⟨o1, o2, o3, o4, o5, rfl, fun b => ⟨g1, g2, g3, g4, g5⟩, hO⟩

end Go.Proofs.YtkhahbnagbjbiaaGreat
end
section
/- Abstract walking: reads, stores and copies in lists among the tails. -/
namespace Go.Proofs.YtkhahbnagbjbiaaGreat
set_option linter.unusedVariables false
set_option linter.unusedSimpArgs false
set_option autoImplicit false
open Go.RowKit
theorem Sta.cellG {E : Cfg} {U : Snaps} {L L1 G : Boxes} {w : World} (h : Sta E U L w) {o : Gr} {cs sp : List Value} {b c k : Nat} {v : Value} (ho : o = some (b, c, sp)) (hT : Tl L1 (gt o cs ++ G) L) (hk : cs[k]? = some v) : w.cell? ⟨b, k, none⟩ = some v := by
  subst ho
  have hL := hT.eq
  simp only [gt, List.singleton_append] at hL
  refine h.cell (i := L1.length) (cs := cs ++ sp) (b := b) (by rw [hL]; simp) ?_
  rw [List.getElem?_append_left (List.getElem?_eq_some_iff.1 hk).1]; exact hk
theorem Sta.isG {α : Type} {z n : Nat} {enc : α → List Value} (hlen : ∀ x, (enc x).length = z) {E : Cfg} {U : Snaps} {L L1 G : Boxes} {w : World} {o : Gr} {cs : List Value} {zs : List α} (h : Sta E U L w) (hT : Tl L1 (gt o cs ++ G) L) (hg : gok o n z cs)
    (hz : zs.flatMap enc = cs) (hn : zs.length = n) : IsT z enc w (gA o) n zs := by
  rcases o with _ | ⟨b, c, sp⟩
  · have := hg.nil rfl
    exact ⟨hn, fun h0 => by omega⟩
  · have hL := hT.eq
    simp only [gt, List.singleton_append] at hL
    exact isT_box hlen (h.at L1.length (b := b) (c := .cells (cs ++ sp)) (by rw [hL]; simp)) hz hn
section
variable {P : Program} {e0 : Cfg} {U : Snaps} {l : Slots} {L : Boxes} {ops : Array Oper} {Q : Exit → Act → World → Prop} {rest : List Oper} {d : Nat} {v : Value}
variable {ty : TypeId} {pos : String} {af : Array Edge} {g : Option (Nat × Bool)} {dd : Option Nat}
/-- copy of a whole list over a list among the tails -/
theorem al_copyG {dT sT e n n2 c c2 b cap : Nat} {o : Gr} {cs sp vs : List Value} {A B : Option Addr} {a : Addr} {L1 G L' : Boxes} {ox oy : Operand} (ho : o = some (b, cap, sp)) (hB : B = some ⟨b, 0, none⟩) (hA : A = some a) (hx : E l ox = some (.slice B n c)) (hy : E l oy = some (.slice A n2 c2)) (hn3 : n2 = n) (hT : Tl L1 (gt o cs ++ G) L)
    (hn1 : cs.length = n) (hn2 : vs.length = n) (hone : ∀ v ∈ vs, v.oneCell' = true) (hsrc : ∀ w, Sta e0 U L w → ∀ j v, vs[j]? = some v → w.cell? (a.add j) = some v)
    (hu : P.underlying dT = some (.slice e)) (hs1 : (P.info? e).map (·.size) = some 1) (hT' : Tl L1 (gt o vs ++ G) L') (hn : Nat.blt d e0.n = true) (hw : want ops l g = some true)
    (k : AL P ops Q e0 U ((d, .int .i64 (n : Int)) :: l) L' rest) : AL P ops Q e0 U l L (⟨some d, .call ⟨.builtin .copy, #[ox, oy], #[dT, sT]⟩, ty, pos, af, g⟩ :: rest) :=
  al_run2 (K := True) hw rfl hn (fun a' w hf hs => by
    subst ho hB hA
    rw [hn3] at hy
    have hL := hT.eq
    have hL' := hT'.eq
    simp only [gt, List.singleton_append] at hL hL'
    have hl := run_loadCells_list (P := P) w a vs (hsrc w hs)
    obtain ⟨w', hr, hst⟩ := run_storeCells P e0 U L1.length b vs L (cs ++ sp) 0 0 w hs (by rw [hL]; simp) (by simp; omega) hone
    rw [show (⟨b, 0, none⟩ : Addr) = ⟨b, 0 + 0, none⟩ from rfl] at *
    refine ⟨_, w', U, L', ?_, ?_, k⟩
    · cases hq : P.info? e with
      | none => simp [hq] at hs1
      | some i =>
        have hi : i.size = 1 := by simpa [hq] using hs1
        have hc : (Builtin.copy_ #[dT, sT] ty #[.slice (some ⟨b, 0 + 0, none⟩) n c, .slice (some a) n c2]).run P w = .ok (goInt n) w' := by
          have hr' : (storeCells ⟨b, 0, none⟩ vs).run P w = .ok () w' := by simpa [storeCells] using hr
          simp [Builtin.copy_, run_underlying hu, Builtin.lenOf, Builtin.firstCells, sizeOf, typeInfo, hq, hi, ← hn2, hl, hr']
        have ex : a'.eval ox = _ := hf.ev hx
        have ey : a'.eval oy = _ := hf.ev hy
        simp only [execOp, resolve, invoke, builtin, Sem.run_bind, Sem.run_pure, Result.andThen_ok, List.map_toArray, List.map_cons, List.map_nil, ex, ey, hc]
        rfl
    · have e1 : L.set L1.length (b, Cont.cells ((cs ++ sp).take (0 + 0) ++ vs ++ (cs ++ sp).drop (0 + 0 + vs.length))) = L' := by
        rw [hL', hL]
        simp only [Nat.zero_add, List.take_zero, List.nil_append]
        rw [show (cs ++ sp).drop vs.length = sp by rw [hn2, ← hn1]; simp]
        simp
      rw [← e1]; exact hst)
end

end Go.Proofs.YtkhahbnagbjbiaaGreat
end
