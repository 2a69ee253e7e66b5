import Derived.Test.YtjjajleiladbhaaGreatDoorKAH
import Derived.Test.YtjjajleiladbhaaGreatDoorKAO
import Derived.Test.YtjjajleiladbhaaGreatDoorKAR
import Derived.Test.YtjjajleiladbhaaGreatDoorKAZ
import Derived.Test.YtjjajleiladbhaaGreatDoorRows
import Derived.KernelRfl
import Derived.Laws.StructEq
section
/- Layer 2: sum; MachineLinear, over this seat's translation (written by ax_ln.py). -/
namespace Go.Proofs.YtjjajleiladbhaaGreatDoor
set_option linter.unusedVariables false
set_option linter.unusedSimpArgs false
open Go.RowKit

theorem lin2_bs_int_1_0_ (a0 : Value) (ha0 : a0.oneCell' = true) : ∀ w, (Instr.buildSlice 32 1 #[(0, a0)]).run Tryz.prog w = .ok (.slice (some ⟨w.heap.size, 0, none⟩) 1 1) (w.alloc (.cells [a0].toArray 3)) := by
  have ea0 : a0.cells = #[a0] := cells_one ha0
  intro w; (simp [Instr.buildSlice, Instr.fill, cells_agg, newRow, Tryz.runUnderlying32, Tryz.zeroValue3, Tryz.sizeOf3, ea0] <;> (rw [(by kernel_rfl : Array.range 1 = #[0])]; simp [Value.cells]))

theorem addI_take {es fs : List Int} {k : Nat} {a b : Int} (ha : es[k]? = some a) (hb : fs[k]? = some b) : (addI es fs).take (k + 1) = (addI es fs).take k ++ [a + b] := by
  have h : (addI es fs)[k]? = some (a + b) := by unfold addI; simp [List.getElem?_zipWith, ha, hb]
  obtain ⟨hk, e⟩ := List.getElem?_eq_some_iff.1 h
  rw [List.take_succ_eq_append_getElem hk, e]

set_option maxRecDepth 100000 in
theorem sum_any (A B : Option Addr) (la ca lb cb : Nat) (es fs : List Int) (w : World) (i1 : IsT 1 intCells w A la es) (i2 : IsT 1 intCells w B lb fs) (k1 : la ≤ 1000) (k2 : lb ≤ 1000) (b1 : ∀ y ∈ es, -1000000 ≤ y ∧ y ≤ 1000000) (b2 : ∀ y ∈ fs, -1000000 ≤ y ∧ y ≤ 1000000) : Calls Tryz.prog 52 #[(.slice A la ca), (.slice B lb cb)] w (fun e w' => ∃ A' c, e = .returned (.slice A' (addI es fs).length c) ∧ NewT 1 intCells w.heap.size w' A' (addI es fs).length c (addI es fs) ∧ Below w.heap.size w w') := by
  refine calls_ax (vs := [(.slice A la ca), (.slice B lb cb)]) Tryz.func52 rfl rfl ?_
  refine ac_seq ?_
  refine ac_region ?_
  refine al_q (q_assign rfl) rfl rfl rfl ?_
  refine al_end ?_
  refine aq_then ?_
  refine ac_seq ?_
  refine ac_region ?_
  refine al_q (q_assign rfl) rfl rfl rfl ?_
  refine al_end ?_
  refine aq_then ?_
  refine ac_seq ?_
  refine ac_seq ?_
  refine ac_region ?_
  refine al_q (q_assign rfl) rfl rfl rfl ?_
  refine al_end ?_
  refine aq_then ?_
  refine ac_block ?_
  refine ac_loop (β := Nat × Gr × List Value) (fun x => (x.1 ≤ la ∧ x.1 ≤ lb) ∧ gok x.2.1 x.1 1 x.2.2 ∧ x.2.2 = ((addI es fs).take x.1).map (Value.int .i64)) (fun x => [(0, (.slice A la ca)), (1, (.slice B lb cb)), (4, (.slice none 0 0)), (5, (.slice (gA x.2.1) x.1 (gC x.2.1))), (6, (.int .i64 (x.1 : Int)))]) (fun _ => _) (fun x => (gt x.2.1 x.2.2 ++ ([]))) (fun x => la - x.1) (0, none, []) ⟨⟨by simp, by simp⟩, gok.none 1, by simp⟩ ⟨rfl, rfl, rfl, rfl, rfl, trivial⟩ (fun w9 hs => hs) (fun x hF1 => ?_)
  obtain ⟨⟨hla, hlb⟩, hgk, hcs⟩ := hF1
  refine ac_seq ?_
  refine ac_seq ?_
  refine ac_region ?_
  refine al_q (q_move rfl) rfl rfl rfl ?_
  refine al_q (q_move rfl) rfl rfl rfl ?_
  refine al_q (q_lenS rfl Tryz.runUnderlying32) rfl rfl rfl ?_
  refine al_q (q_lss rfl rfl) rfl rfl rfl ?_
  refine al_q (q_move rfl) rfl rfl rfl ?_
  refine aq_split 11 rfl (fun hb1 => ?_) (fun hb1 => ?_)
  · have hk1 : x.1 < la := by have := of_decide_eq_true hb1; omega
    refine al_q (q_move rfl) rfl rfl rfl ?_
    refine al_q (q_move rfl) rfl rfl rfl ?_
    refine al_q (q_lenS rfl Tryz.runUnderlying32) rfl rfl rfl ?_
    refine al_q (q_lss rfl rfl) rfl rfl rfl ?_
    refine al_q (q_pickT rfl rfl) rfl rfl rfl ?_
    refine al_end ?_
    refine aq_then ?_
    refine ac_cond rfl (fun h1 => ?_) (fun h1 => ?_)
    · have hk2 : x.1 < lb := by have := of_decide_eq_true h1; omega
      obtain ⟨b11, o11, hA1, hlt1, hget1⟩ := i1.2 (by omega)
      obtain ⟨b21, o21, hA2, hlt2, hget2⟩ := i2.2 (by omega)
      obtain ⟨a1, ha1⟩ : ∃ y, es[x.1]? = some y := ⟨_, List.getElem?_eq_getElem (by rw [i1.1]; omega)⟩
      obtain ⟨a2, ha2⟩ : ∃ y, fs[x.1]? = some y := ⟨_, List.getElem?_eq_getElem (by rw [i2.1]; omega)⟩
      have q1 := b1 a1 (List.mem_of_getElem? ha1)
      have q2 := b2 a2 (List.mem_of_getElem? ha2)
      refine ac_skip ?_
      refine aq_then ?_
      refine ac_seq ?_
      refine ac_block ?_
      refine ac_drawF 12 .z (by kernel_rfl) (by kernel_rfl) ?_
      refine ah_take 0 (fun w9 hs => (hs.front (.z))) rfl rfl rfl (by kernel_rfl) (by kernel_rfl) (by kernel_rfl) (fun _ _ _ h => h) rfl (q_move rfl) ?_
      refine ah_take 1 (fun w9 hs => (hs.front (.z))) rfl rfl rfl (by kernel_rfl) (by kernel_rfl) (by kernel_rfl) (fun _ _ _ h => h) rfl (q_move rfl) ?_
      refine ah_take 2 (fun w9 hs => (hs.front (.z))) rfl rfl rfl (by kernel_rfl) (by kernel_rfl) (by kernel_rfl) (fun _ _ _ h => h) rfl (q_move rfl) ?_
      refine ah_take 3 (fun w9 hs => (hs.front (.z))) rfl rfl rfl (by kernel_rfl) (by kernel_rfl) (by kernel_rfl) (fun _ _ _ h => h) rfl (q_indexAddrA (i := x.1) (o11 + x.1 * 1 + 0) hA1 rfl rfl rfl (by omega) Tryz.runUnderlying32 Tryz.sizeOf3 rfl) ?_
      refine ah_take 4 (fun w9 hs => (hs.front (.z))) rfl rfl rfl (by kernel_rfl) (by kernel_rfl) (by kernel_rfl) (fun _ _ _ h => h) rfl (q_loadX rfl Tryz.isAgg3 (fun w9 hs => (hs.below.cell (p := ⟨_, _, none⟩) hlt1).trans ((hget1 x.1 a1 ha1) 0 _ rfl))) ?_
      refine ah_take 5 (fun w9 hs => (hs.front (.z))) rfl rfl rfl (by kernel_rfl) (by kernel_rfl) (by kernel_rfl) (fun _ _ _ h => h) rfl (q_move rfl) ?_
      refine ah_take 6 (fun w9 hs => (hs.front (.z))) rfl rfl rfl (by kernel_rfl) (by kernel_rfl) (by kernel_rfl) (fun _ _ _ h => h) rfl (q_move rfl) ?_
      refine ah_take 7 (fun w9 hs => (hs.front (.z))) rfl rfl rfl (by kernel_rfl) (by kernel_rfl) (by kernel_rfl) (fun _ _ _ h => h) rfl (q_indexAddrA (i := x.1) (o21 + x.1 * 1 + 0) hA2 rfl rfl rfl (by omega) Tryz.runUnderlying32 Tryz.sizeOf3 rfl) ?_
      refine ah_take 8 (fun w9 hs => (hs.front (.z))) rfl rfl rfl (by kernel_rfl) (by kernel_rfl) (by kernel_rfl) (fun _ _ _ h => h) rfl (q_loadX rfl Tryz.isAgg3 (fun w9 hs => (hs.below.cell (p := ⟨_, _, none⟩) hlt2).trans ((hget2 x.1 a2 ha2) 0 _ rfl))) ?_
      refine ah_take 9 (fun w9 hs => (hs.front (.z))) rfl rfl rfl (by kernel_rfl) (by kernel_rfl) (by kernel_rfl) (fun _ _ _ h => h) rfl (q_add rfl rfl (by omega)) ?_
      refine ah_one 10 rfl (by kernel_rfl) (fun hok1 hcl1 => ?_)
      refine al_new (fun b => .slice (some ⟨b, 0, none⟩) 1 1) (r_buildSlice (.cons rfl .nil) (lin2_bs_int_1_0_ _ rfl)) rfl rfl rfl ?_
      intro b1
      refine al_end (ah_back hok1 hcl1 (fun w9 hs => ((hs.tail 1 rfl).front (.z))) ?_)
      refine ah_one 11 rfl (by kernel_rfl) (fun hok2 hcl2 => ?_)
      refine al_grow (z := 1) (bytes := 8) (zv := (.int .i64 0)) (o := x.2.1) (cs := x.2.2) (vs := [.int .i64 (a1 + a2)]) rfl rfl (.s (.z)) hgk (Sor.box (j := 0) rfl rfl rfl) Tryz.underlying32 (by kernel_rfl) rfl (by omega) (by decide) rfl rfl (fun o_1 g_1 => ?_)
      refine ⟨_, (.s (.z)), ?_⟩
      refine al_end (ah_back hok2 hcl2 (fun w9 hs => ((hs.tail 1 rfl).front (.z))) ?_)
      refine ah_one 12 rfl (by kernel_rfl) (fun hok3 hcl3 => ?_)
      refine al_q (q_assign rfl) rfl rfl rfl ?_
      refine al_end (ah_last (by kernel_rfl) ?_)
      refine aq_inN ?_
      refine aq_then ?_
      refine ac_region ?_
      refine al_q (q_move rfl) rfl rfl rfl ?_
      refine al_q (q_add rfl rfl (by omega)) rfl rfl rfl ?_
      refine al_q (q_assign rfl) rfl rfl rfl ?_
      refine al_end ?_
      refine aq_then ?_
      skip
      refine aq_round ((x.1 + 1, o_1, x.2.2 ++ [.int .i64 (a1 + a2)])) (by simp only; omega) ⟨⟨by simp only; omega, by simp only; omega⟩, g_1, by simp only; rw [hcs, addI_take ha1 ha2]; simp⟩ ⟨rfl, rfl, rfl, rfl, rfl, trivial⟩ (fun w9 hs => (hs.tail 1 rfl))
    · have hk2 : ¬ x.1 < lb := by have := of_decide_eq_false h1; omega
      refine ac_exit ?_
      refine aq_thenE ?_
      refine aq_thenE ?_
      refine aq_hit ?_
      refine aq_then ?_
      refine ac_seq ?_
      refine ac_region ?_
      refine al_q (q_move rfl) rfl rfl rfl ?_
      refine al_q (q_assign rfl) rfl rfl rfl ?_
      refine al_end ?_
      refine aq_then ?_
      refine ac_ret ?_
      refine ret1 Tryz.results52 rfl (fun w9 hs => ?_)
      have hn : x.1 = (addI es fs).length := by simp only [addI, List.length_zipWith, i1.1, i2.1]; omega
      exact ⟨gA x.2.1, gC x.2.1, by rw [← hn], by rw [← hn]; exact hs.grown (enc := intCells) (o := x.2.1) (cs := x.2.2) (fun _ => rfl) (fun y hy => by simp [hy]) hgk (by rw [hcs, hn, List.take_length, flat_int]) hn.symm, hs.below⟩
  · have hk1 : ¬ x.1 < la := by have := of_decide_eq_false hb1; omega
    refine al_skip rfl rfl rfl ?_
    refine al_skip rfl rfl rfl ?_
    refine al_skip rfl rfl rfl ?_
    refine al_skip rfl rfl rfl ?_
    refine al_q (q_pickF rfl rfl) rfl rfl rfl ?_
    refine al_end ?_
    refine aq_then ?_
    refine ac_condF rfl ?_
    refine ac_exit ?_
    refine aq_thenE ?_
    refine aq_thenE ?_
    refine aq_hit ?_
    refine aq_then ?_
    refine ac_seq ?_
    refine ac_region ?_
    refine al_q (q_move rfl) rfl rfl rfl ?_
    refine al_q (q_assign rfl) rfl rfl rfl ?_
    refine al_end ?_
    refine aq_then ?_
    refine ac_ret ?_
    refine ret1 Tryz.results52 rfl (fun w9 hs => ?_)
    have hn : x.1 = (addI es fs).length := by simp only [addI, List.length_zipWith, i1.1, i2.1]; omega
    exact ⟨gA x.2.1, gC x.2.1, by rw [← hn], by rw [← hn]; exact hs.grown (enc := intCells) (o := x.2.1) (cs := x.2.2) (fun _ => rfl) (fun y hy => by simp [hy]) hgk (by rw [hcs, hn, List.take_length, flat_int]) hn.symm, hs.below⟩

/-- what the three sums have left -/
structure LinS where
  (A1 A2 A3 : Option Addr) (c1 c2 c3 l1 l2 l3 b : Nat) (u1 u2 u3 : World)
structure LinF (M : MachD) (C D : CurD) (x : LinS) : Prop where
  n1 : NewT 1 intCells x.l1 x.u1 x.A1 (addI C.coils D.coils).length x.c1 (addI C.coils D.coils)
  n2 : NewT 1 intCells x.l2 x.u2 x.A2 (addI C.shells D.shells).length x.c2 (addI C.shells D.shells)
  n3 : NewT 1 intCells x.l3 x.u3 x.A3 (addI C.plasma D.plasma).length x.c3 (addI C.plasma D.plasma)
abbrev LinS.q (x : LinS) (C D : CurD) : CurR := ⟨x.A1, x.A2, x.A3, (addI C.coils D.coils).length, x.c1, (addI C.shells D.shells).length, x.c2, (addI C.plasma D.plasma).length, x.c3⟩
theorem addI_length {a b : List Int} (h : a.length = b.length) : (addI a b).length = a.length := by simp [addI, h]
theorem linC {M : MachD} {C D : CurD} {x : LinS} (hF : LinF M C D x) (hf : Fit2 M C) (hg : Fit2 M D) {E : Cfg} {U : Snaps} {L : Boxes} {w : World} (hs : Sta E U L w) (m1 : (x.l1, x.u1) ∈ U) (m2 : (x.l2, x.u2) ∈ U) (m3 : (x.l3, x.u3) ∈ U) : IsC w (x.q C D) (addC C D) := by
  have hs0 := sound_of hf.check
  have hc := cells_fine hs0.grid
  have e1 : (addI C.coils D.coils).length = C.coils.length := addI_length (hf.coils.1.trans hg.coils.1.symm)
  have e2 : (addI C.shells D.shells).length = C.shells.length := addI_length (hf.shells.1.trans hg.shells.1.symm)
  have e3 : (addI C.plasma D.plasma).length = C.plasma.length := addI_length (by have := hf.plasma.1; have := hg.plasma.1; omega)
  have a1 := hs0.coils.1
  have a2 := hs0.shells.1
  have a3 := hf.plasma.1
  have a4 := hf.coils.1
  have a5 := hf.shells.1
  exact ⟨hs.newT m1 hF.n1, hs.newT m2 hF.n2, hs.newT m3 hF.n3, hF.n1.le.1, hF.n2.le.1, hF.n3.le.1, hF.n1.le.2, hF.n2.le.2, hF.n3.le.2, by simp only; omega, by simp only; omega, by simp only; omega⟩
theorem pts_get (zs : List PointD) (sp : List Value) : ∀ (k : Nat) (x : PointD), zs[k]? = some x → ∀ (i : Nat) (v : Value), x.cells[i]? = some v → ((zs.flatMap PointD.cells) ++ sp)[0 + k * 2 + i]? = some v := by
  intro k x hx i v hv
  have h := flat_get (n := 2) (enc := PointD.cells) (fun _ => rfl) zs k x hx i v hv
  rw [Nat.zero_add, List.getElem?_append_left (List.getElem?_eq_some_iff.1 h).1]; exact h

theorem lin2_bl_apiCurrents_0_1_2 (a0 a1 a2 : Value) (ha0 : a0.oneCell' = true) (ha1 : a1.oneCell' = true) (ha2 : a2.oneCell' = true) : ∀ w, (Instr.build 34 #[(0, a0), (1, a1), (2, a2)]).run Tryz.prog w = .ok (.agg #[a0, a1, a2]) w := by
  have ea0 : a0.cells = #[a0] := cells_one ha0
  have ea1 : a1.cells = #[a1] := cells_one ha1
  have ea2 : a2.cells = #[a2] := cells_one ha2
  intro w; simp [Instr.build, Instr.fill, cells_agg, Tryz.runUnderlying34, Tryz.zeroValue34, Tryz.sizeOf32, ea0, ea1, ea2]

theorem lin2_bl_apiPoint_ : ∀ w, (Instr.build 40 #[]).run Tryz.prog w = .ok (.agg #[(.int .i64 0), (.int .i64 0)]) w := by
  intro w; simp [Instr.build, Instr.fill, cells_agg, Tryz.runUnderlying40, Tryz.zeroValue40, Tryz.sizeOf3]

theorem lin2_bs_apiPoint_1_0_ (c0_0 c0_1 : Value) : ∀ w, (Instr.buildSlice 24 1 #[(0, .agg #[c0_0, c0_1])]).run Tryz.prog w = .ok (.slice (some ⟨w.heap.size, 0, none⟩) 1 1) (w.alloc (.cells [c0_0, c0_1].toArray 40)) := by
  intro w; (simp [Instr.buildSlice, Instr.fill, cells_agg, newRow, Tryz.runUnderlying24, Tryz.zeroValue40, Tryz.sizeOf40] <;> (rw [(by kernel_rfl : Array.range 2 = #[0, 1])]; simp [Value.cells]))

set_option maxRecDepth 100000 in
theorem linear_ok (R : MachR) (M : MachD) (Q Q2 : CurR) (C D : CurD) (W : World) (hE : Env W) (hM : R.la ≤ 1000000000000000 → R.lb ≤ 1000000000000000 → R.lc ≤ 1000000000000000 → R.ld ≤ 1000000000000000 → IsM W R M) (hC : OpC W Q C) (hD : IsC W Q2 D) : Calls Tryz.prog 9 #[(.agg (machCells R M)), Q.v, Q2.v] W (Ret (.bool true) W) := by
  refine calls_ax (vs := [(.agg (machCells R M)), Q.v, Q2.v]) Tryz.func9 rfl rfl ?_
  refine ac_seq ?_
  refine ac_region ?_
  refine al_new (fun b => .pointer (some ⟨b, 0, none⟩)) (r_box rfl rfl) rfl rfl rfl ?_
  intro b1
  refine al_new (fun b => .pointer (some ⟨b, 0, none⟩)) (r_box rfl rfl) rfl rfl rfl ?_
  intro b2
  refine al_new (fun b => .pointer (some ⟨b, 0, none⟩)) (r_box rfl rfl) rfl rfl rfl ?_
  intro b3
  refine al_q (q_assign rfl) rfl rfl rfl ?_
  refine al_end ?_
  refine aq_then ?_
  refine ac_seq ?_
  refine ac_seq ?_
  refine ac_region ?_
  refine al_q (q_loadAll (i := 2) rfl rfl Tryz.isAgg29 Tryz.sizeOf29 rfl) rfl rfl rfl ?_
  refine al_q (q_loadAll (i := 1) rfl rfl Tryz.isAgg34 Tryz.sizeOf34 rfl) rfl rfl rfl ?_
  refine al_call Tryz.call16 (.cons rfl (.cons rfl .nil)) rfl rfl (fun w1 hs1 => ?_)
  refine (brief2_any R M Q _).mono ?_
  rintro e u1 ⟨rfl, hb_1⟩
  refine ⟨_, rfl, hb_1, ?_⟩
  clear hs1
  refine al_q (q_not rfl) rfl rfl rfl ?_
  refine al_q (q_move rfl) rfl rfl rfl ?_
  refine aq_split 26 rfl (fun hb1 => ?_) (fun hb1 => ?_)
  · skip
    refine al_skip rfl rfl rfl ?_
    refine al_skip rfl rfl rfl ?_
    refine al_skip rfl rfl rfl ?_
    refine al_skip rfl rfl rfl ?_
    refine al_q (q_pickT rfl rfl) rfl rfl rfl ?_
    refine al_q (q_move rfl) rfl rfl rfl ?_
    refine al_skip rfl rfl rfl ?_
    refine al_skip rfl rfl rfl ?_
    refine al_skip rfl rfl rfl ?_
    refine al_skip rfl rfl rfl ?_
    refine al_q (q_pickT rfl rfl) rfl rfl rfl ?_
    refine al_end ?_
    refine aq_then ?_
    refine ac_condT rfl ?_
    refine ac_seq ?_
    refine ac_region ?_
    refine al_call Tryz.call19 .nil rfl rfl (fun w2 hs2 => ?_)
    refine (awake2_any _ (hE.below hs2.below)).mono ?_
    rintro e u2 ⟨rfl, hb_2⟩
    refine ⟨_, rfl, hb_2, ?_⟩
    clear hs2
    refine al_q (q_assign rfl) rfl rfl rfl ?_
    refine al_end ?_
    refine aq_then ?_
    refine ac_ret ?_
    refine aq_thenR ?_
    refine ret1 Tryz.results9 rfl (fun w9 hs => ?_)
    exact ⟨rfl, hs.below⟩
  · have hbf := brief2_iff.1 (show brief2 R Q = true by simpa using hb1)
    have hM := hM (by omega) (by omega) (by omega) (by omega)
    have hC := hC.isC (by omega) (by omega) (by omega)
    refine al_q (q_loadAll (i := 2) rfl rfl Tryz.isAgg29 Tryz.sizeOf29 rfl) rfl rfl rfl ?_
    refine al_q (q_loadAll (i := 1) rfl rfl Tryz.isAgg34 Tryz.sizeOf34 rfl) rfl rfl rfl ?_
    refine al_call Tryz.call39 (.cons rfl (.cons rfl .nil)) rfl rfl (fun w3 hs3 => ?_)
    refine (rvalid2_any R M Q C _ (hM.below hs3.below) (hC.below hs3.below)).mono ?_
    rintro e u3 ⟨rfl, hb_3⟩
    refine ⟨_, rfl, hb_3, ?_⟩
    clear hs3
    refine al_q (q_not rfl) rfl rfl rfl ?_
    refine al_q (q_pickF rfl rfl) rfl rfl rfl ?_
    refine al_q (q_move rfl) rfl rfl rfl ?_
    refine aq_split 32 rfl (fun hb2 => ?_) (fun hb2 => ?_)
    · skip
      refine al_skip rfl rfl rfl ?_
      refine al_skip rfl rfl rfl ?_
      refine al_skip rfl rfl rfl ?_
      refine al_skip rfl rfl rfl ?_
      refine al_q (q_pickT rfl rfl) rfl rfl rfl ?_
      refine al_end ?_
      refine aq_then ?_
      refine ac_condT rfl ?_
      refine ac_seq ?_
      refine ac_region ?_
      refine al_call Tryz.call19 .nil rfl rfl (fun w4 hs4 => ?_)
      refine (awake2_any _ (hE.below hs4.below)).mono ?_
      rintro e u4 ⟨rfl, hb_4⟩
      refine ⟨_, rfl, hb_4, ?_⟩
      clear hs4
      refine al_q (q_assign rfl) rfl rfl rfl ?_
      refine al_end ?_
      refine aq_then ?_
      refine ac_ret ?_
      refine aq_thenR ?_
      refine ret1 Tryz.results9 rfl (fun w9 hs => ?_)
      exact ⟨rfl, hs.below⟩
    · have hf : Fit2 M C := fit2_iff.1 (by simpa using hb2)
      refine al_q (q_loadAll (i := 2) rfl rfl Tryz.isAgg29 Tryz.sizeOf29 rfl) rfl rfl rfl ?_
      refine al_q (q_loadAll (i := 0) rfl rfl Tryz.isAgg34 Tryz.sizeOf34 rfl) rfl rfl rfl ?_
      refine al_call Tryz.call39 (.cons rfl (.cons rfl .nil)) rfl rfl (fun w5 hs5 => ?_)
      refine (rvalid2_any R M Q2 D _ (hM.below hs5.below) (hD.below hs5.below)).mono ?_
      rintro e u5 ⟨rfl, hb_5⟩
      refine ⟨_, rfl, hb_5, ?_⟩
      clear hs5
      refine al_q (q_not rfl) rfl rfl rfl ?_
      refine al_q (q_pickF rfl rfl) rfl rfl rfl ?_
      refine al_end ?_
      refine aq_then ?_
      refine ac_cond rfl (fun h1 => ?_) (fun h1 => ?_)
      · skip
        refine ac_seq ?_
        refine ac_region ?_
        refine al_call Tryz.call19 .nil rfl rfl (fun w6 hs6 => ?_)
        refine (awake2_any _ (hE.below hs6.below)).mono ?_
        rintro e u6 ⟨rfl, hb_6⟩
        refine ⟨_, rfl, hb_6, ?_⟩
        clear hs6
        refine al_q (q_assign rfl) rfl rfl rfl ?_
        refine al_end ?_
        refine aq_then ?_
        refine ac_ret ?_
        refine aq_thenR ?_
        refine ret1 Tryz.results9 rfl (fun w9 hs => ?_)
        exact ⟨rfl, hs.below⟩
      · have hg : Fit2 M D := fit2_iff.1 (by simpa using h1)
        have l1 := hC.coils.1
        have l2 := hC.shells.1
        have l3 := hC.plasma.1
        have l4 := hD.coils.1
        have l5 := hD.shells.1
        have l6 := hD.plasma.1
        have hs0 := sound_of hf.check
        have hcf := cells_fine hs0.grid
        have n1 := hs0.coils.1
        have n2 := hs0.shells.1
        have n3 := hf.coils.1
        have n4 := hf.shells.1
        have n5 := hf.plasma.1
        have n6 := hg.coils.1
        have n7 := hg.shells.1
        have n8 := hg.plasma.1
        refine ac_skip ?_
        refine aq_then ?_
        refine ac_cut (β := LinS) (fun x => LinF M C D x) (fun x => [(3, (.pointer (some ⟨b1, 0, none⟩))), (4, (.pointer (some ⟨b2, 0, none⟩))), (5, (.pointer (some ⟨b3, 0, none⟩))), (6, (.bool false)), (7, (.pointer (some ⟨x.b, 0, none⟩)))]) (fun x => [(x.l3, x.u3), (x.l2, x.u2), (x.l1, x.u1)]) (fun x L9 => (x.b, .cells [.slice x.A1 (addI C.coils D.coils).length x.c1, .slice x.A2 (addI C.shells D.shells).length x.c2, .slice x.A3 (addI C.plasma D.plasma).length x.c3]) :: L9) (fun X9 hX9 => ?_) (fun x hF9 => ?_)
        · refine ac_draw 17 (by kernel_rfl) (by kernel_rfl) ?_
          refine ah_take 0 (fun w9 hs => hs) rfl rfl rfl (by kernel_rfl) (by kernel_rfl) (by kernel_rfl) (fun _ _ _ h => h) rfl (q_fieldAddr 0 rfl Tryz.runUnderlying34 rfl Tryz.sizeOf32 (by decide) rfl) ?_
          refine ah_take 1 (fun w9 hs => hs) rfl rfl rfl (by kernel_rfl) (by kernel_rfl) (by kernel_rfl) (fun _ _ _ h => h) rfl (q_load (i := 1) rfl rfl rfl Tryz.isAgg32) ?_
          refine ah_take 2 (fun w9 hs => hs) rfl rfl rfl (by kernel_rfl) (by kernel_rfl) (by kernel_rfl) (fun _ _ _ h => h) rfl (q_fieldAddr 0 rfl Tryz.runUnderlying34 rfl Tryz.sizeOf32 (by decide) rfl) ?_
          refine ah_take 3 (fun w9 hs => hs) rfl rfl rfl (by kernel_rfl) (by kernel_rfl) (by kernel_rfl) (fun _ _ _ h => h) rfl (q_load (i := 0) rfl rfl rfl Tryz.isAgg32) ?_
          refine ah_take 5 (fun w9 hs => hs) rfl rfl rfl (by kernel_rfl) (by kernel_rfl) (by kernel_rfl) (fun _ _ _ h => h) rfl (q_fieldAddr 1 rfl Tryz.runUnderlying34 rfl Tryz.sizeOf32 (by decide) rfl) ?_
          refine ah_take 6 (fun w9 hs => hs) rfl rfl rfl (by kernel_rfl) (by kernel_rfl) (by kernel_rfl) (fun _ _ _ h => h) rfl (q_load (i := 1) rfl rfl rfl Tryz.isAgg32) ?_
          refine ah_take 7 (fun w9 hs => hs) rfl rfl rfl (by kernel_rfl) (by kernel_rfl) (by kernel_rfl) (fun _ _ _ h => h) rfl (q_fieldAddr 1 rfl Tryz.runUnderlying34 rfl Tryz.sizeOf32 (by decide) rfl) ?_
          refine ah_take 8 (fun w9 hs => hs) rfl rfl rfl (by kernel_rfl) (by kernel_rfl) (by kernel_rfl) (fun _ _ _ h => h) rfl (q_load (i := 0) rfl rfl rfl Tryz.isAgg32) ?_
          refine ah_take 10 (fun w9 hs => hs) rfl rfl rfl (by kernel_rfl) (by kernel_rfl) (by kernel_rfl) (fun _ _ _ h => h) rfl (q_fieldAddr 2 rfl Tryz.runUnderlying34 rfl Tryz.sizeOf32 (by decide) rfl) ?_
          refine ah_take 11 (fun w9 hs => hs) rfl rfl rfl (by kernel_rfl) (by kernel_rfl) (by kernel_rfl) (fun _ _ _ h => h) rfl (q_load (i := 1) rfl rfl rfl Tryz.isAgg32) ?_
          refine ah_take 12 (fun w9 hs => hs) rfl rfl rfl (by kernel_rfl) (by kernel_rfl) (by kernel_rfl) (fun _ _ _ h => h) rfl (q_fieldAddr 2 rfl Tryz.runUnderlying34 rfl Tryz.sizeOf32 (by decide) rfl) ?_
          refine ah_take 13 (fun w9 hs => hs) rfl rfl rfl (by kernel_rfl) (by kernel_rfl) (by kernel_rfl) (fun _ _ _ h => h) rfl (q_load (i := 0) rfl rfl rfl Tryz.isAgg32) ?_
          refine ah_two 4 16 rfl rfl  (by kernel_rfl) (fun hok1 hcl1 => ?_) (fun hok1 hcl1 => ?_)
          · refine al_call Tryz.call52 (.cons rfl (.cons rfl .nil)) rfl rfl (fun w7 hs7 => ?_)
            refine (sum_any Q.A Q2.A Q.la Q.ca Q2.la Q2.ca C.coils D.coils _ (hC.coils.below hs7.below) (hD.coils.below hs7.below) (by omega) (by omega) (fun y hy => by have := hf.coils.2 y hy; omega) (fun y hy => by have := hg.coils.2 y hy; omega)).mono ?_
            rintro e u7 ⟨A1, c1, rfl, N1, hb_7⟩
            refine ⟨_, rfl, hb_7, ?_⟩
            clear hs7
            refine al_end (ah_back hok1 hcl1 (fun w9 hs => (hs.fewer 1 rfl)) ?_)
            refine ah_two 9 16 rfl rfl  (by kernel_rfl) (fun hok2 hcl2 => ?_) (fun hok2 hcl2 => ?_)
            · refine al_call Tryz.call52 (.cons rfl (.cons rfl .nil)) rfl rfl (fun w8 hs8 => ?_)
              refine (sum_any Q.B Q2.B Q.lb Q.cb Q2.lb Q2.cb C.shells D.shells _ (hC.shells.below hs8.below) (hD.shells.below hs8.below) (by omega) (by omega) (fun y hy => by have := hf.shells.2 y hy; omega) (fun y hy => by have := hg.shells.2 y hy; omega)).mono ?_
              rintro e u8 ⟨A2, c2, rfl, N2, hb_8⟩
              refine ⟨_, rfl, hb_8, ?_⟩
              clear hs8
              refine al_end (ah_back hok2 hcl2 (fun w9 hs => (hs.fewer 2 rfl)) ?_)
              refine ah_two 14 16 rfl rfl  (by kernel_rfl) (fun hok3 hcl3 => ?_) (fun hok3 hcl3 => ?_)
              · refine al_call Tryz.call52 (.cons rfl (.cons rfl .nil)) rfl rfl (fun w9 hs9 => ?_)
                refine (sum_any Q.C Q2.C Q.lc Q.cc Q2.lc Q2.cc C.plasma D.plasma _ (hC.plasma.below hs9.below) (hD.plasma.below hs9.below) (by omega) (by omega) (fun y hy => by have := hf.plasma.2 y hy; omega) (fun y hy => by have := hg.plasma.2 y hy; omega)).mono ?_
                rintro e u9 ⟨A3, c3, rfl, N3, hb_9⟩
                refine ⟨_, rfl, hb_9, ?_⟩
                clear hs9
                refine al_end (ah_back hok3 hcl3 (fun w9 hs => (hs.fewer 3 rfl)) ?_)
                refine ah_take 15 (fun w9 hs => (hs.fewer 3 rfl)) rfl rfl rfl (by kernel_rfl) (by kernel_rfl) (by kernel_rfl) (fun _ _ _ h => h) rfl (q_build (.cons rfl (.cons rfl (.cons rfl .nil))) (lin2_bl_apiCurrents_0_1_2 _ _ _ rfl rfl rfl)) ?_
                refine ah_one 16 rfl (by kernel_rfl) (fun hok4 hcl4 => ?_)
                refine al_new (fun b => .pointer (some ⟨b, 0, none⟩)) (r_alloc Tryz.zeroValue34 rfl) rfl rfl rfl ?_
                intro b4
                refine al_end (ah_back hok4 hcl4 (fun w9 hs => ((hs.fewer 3 rfl).tail 1 rfl)) ?_)
                refine ah_one 17 rfl (by kernel_rfl) (fun hok5 hcl5 => ?_)
                refine al_storeAll (i := 0) rfl rfl rfl rfl Tryz.sizeOf34 rfl rfl .k0 rfl ?_
                refine al_end (ah_last (by kernel_rfl) ?_)
                refine aq_then ?_
                exact aq_sub (hX9 (⟨A1, A2, A3, c1, c2, c3, w7.heap.size, w8.heap.size, w9.heap.size, b4, u7, u8, u9⟩) (⟨N1, N2, N3⟩)) ⟨rfl, rfl, rfl, rfl, rfl, trivial⟩ (fun w9 hs => hs.firstSnaps 3 rfl)
              · refine al_new (fun b => .pointer (some ⟨b, 0, none⟩)) (r_alloc Tryz.zeroValue34 rfl) rfl rfl rfl ?_
                intro b5
                refine al_end (ah_back hok3 hcl3 (fun w9 hs => ((hs.fewer 2 rfl).tail 1 rfl)) ?_)
                refine ah_one 14 rfl (by kernel_rfl) (fun hok6 hcl6 => ?_)
                refine al_call Tryz.call52 (.cons rfl (.cons rfl .nil)) rfl rfl (fun w10 hs10 => ?_)
                refine (sum_any Q.C Q2.C Q.lc Q.cc Q2.lc Q2.cc C.plasma D.plasma _ (hC.plasma.below hs10.below) (hD.plasma.below hs10.below) (by omega) (by omega) (fun y hy => by have := hf.plasma.2 y hy; omega) (fun y hy => by have := hg.plasma.2 y hy; omega)).mono ?_
                rintro e u10 ⟨A3, c3, rfl, N3, hb_10⟩
                refine ⟨_, rfl, hb_10, ?_⟩
                clear hs10
                refine al_end (ah_back hok6 hcl6 (fun w9 hs => ((hs.fewer 3 rfl).tail 1 rfl)) ?_)
                refine ah_take 15 (fun w9 hs => ((hs.fewer 3 rfl).tail 1 rfl)) rfl rfl rfl (by kernel_rfl) (by kernel_rfl) (by kernel_rfl) (fun _ _ _ h => h) rfl (q_build (.cons rfl (.cons rfl (.cons rfl .nil))) (lin2_bl_apiCurrents_0_1_2 _ _ _ rfl rfl rfl)) ?_
                refine ah_one 17 rfl (by kernel_rfl) (fun hok7 hcl7 => ?_)
                refine al_storeAll (i := 0) rfl rfl rfl rfl Tryz.sizeOf34 rfl rfl .k0 rfl ?_
                refine al_end (ah_last (by kernel_rfl) ?_)
                refine aq_then ?_
                exact aq_sub (hX9 (⟨A1, A2, A3, c1, c2, c3, w7.heap.size, w8.heap.size, w10.heap.size, b5, u7, u8, u10⟩) (⟨N1, N2, N3⟩)) ⟨rfl, rfl, rfl, rfl, rfl, trivial⟩ (fun w9 hs => hs.firstSnaps 3 rfl)
            · refine al_new (fun b => .pointer (some ⟨b, 0, none⟩)) (r_alloc Tryz.zeroValue34 rfl) rfl rfl rfl ?_
              intro b6
              refine al_end (ah_back hok2 hcl2 (fun w9 hs => ((hs.fewer 1 rfl).tail 1 rfl)) ?_)
              refine ah_one 9 rfl (by kernel_rfl) (fun hok8 hcl8 => ?_)
              refine al_call Tryz.call52 (.cons rfl (.cons rfl .nil)) rfl rfl (fun w11 hs11 => ?_)
              refine (sum_any Q.B Q2.B Q.lb Q.cb Q2.lb Q2.cb C.shells D.shells _ (hC.shells.below hs11.below) (hD.shells.below hs11.below) (by omega) (by omega) (fun y hy => by have := hf.shells.2 y hy; omega) (fun y hy => by have := hg.shells.2 y hy; omega)).mono ?_
              rintro e u11 ⟨A2, c2, rfl, N2, hb_11⟩
              refine ⟨_, rfl, hb_11, ?_⟩
              clear hs11
              refine al_end (ah_back hok8 hcl8 (fun w9 hs => ((hs.fewer 2 rfl).tail 1 rfl)) ?_)
              refine ah_one 14 rfl (by kernel_rfl) (fun hok9 hcl9 => ?_)
              refine al_call Tryz.call52 (.cons rfl (.cons rfl .nil)) rfl rfl (fun w12 hs12 => ?_)
              refine (sum_any Q.C Q2.C Q.lc Q.cc Q2.lc Q2.cc C.plasma D.plasma _ (hC.plasma.below hs12.below) (hD.plasma.below hs12.below) (by omega) (by omega) (fun y hy => by have := hf.plasma.2 y hy; omega) (fun y hy => by have := hg.plasma.2 y hy; omega)).mono ?_
              rintro e u12 ⟨A3, c3, rfl, N3, hb_12⟩
              refine ⟨_, rfl, hb_12, ?_⟩
              clear hs12
              refine al_end (ah_back hok9 hcl9 (fun w9 hs => ((hs.fewer 3 rfl).tail 1 rfl)) ?_)
              refine ah_take 15 (fun w9 hs => ((hs.fewer 3 rfl).tail 1 rfl)) rfl rfl rfl (by kernel_rfl) (by kernel_rfl) (by kernel_rfl) (fun _ _ _ h => h) rfl (q_build (.cons rfl (.cons rfl (.cons rfl .nil))) (lin2_bl_apiCurrents_0_1_2 _ _ _ rfl rfl rfl)) ?_
              refine ah_one 17 rfl (by kernel_rfl) (fun hok10 hcl10 => ?_)
              refine al_storeAll (i := 0) rfl rfl rfl rfl Tryz.sizeOf34 rfl rfl .k0 rfl ?_
              refine al_end (ah_last (by kernel_rfl) ?_)
              refine aq_then ?_
              exact aq_sub (hX9 (⟨A1, A2, A3, c1, c2, c3, w7.heap.size, w11.heap.size, w12.heap.size, b6, u7, u11, u12⟩) (⟨N1, N2, N3⟩)) ⟨rfl, rfl, rfl, rfl, rfl, trivial⟩ (fun w9 hs => hs.firstSnaps 3 rfl)
          · refine al_new (fun b => .pointer (some ⟨b, 0, none⟩)) (r_alloc Tryz.zeroValue34 rfl) rfl rfl rfl ?_
            intro b7
            refine al_end (ah_back hok1 hcl1 (fun w9 hs => (hs.tail 1 rfl)) ?_)
            refine ah_one 4 rfl (by kernel_rfl) (fun hok11 hcl11 => ?_)
            refine al_call Tryz.call52 (.cons rfl (.cons rfl .nil)) rfl rfl (fun w13 hs13 => ?_)
            refine (sum_any Q.A Q2.A Q.la Q.ca Q2.la Q2.ca C.coils D.coils _ (hC.coils.below hs13.below) (hD.coils.below hs13.below) (by omega) (by omega) (fun y hy => by have := hf.coils.2 y hy; omega) (fun y hy => by have := hg.coils.2 y hy; omega)).mono ?_
            rintro e u13 ⟨A1, c1, rfl, N1, hb_13⟩
            refine ⟨_, rfl, hb_13, ?_⟩
            clear hs13
            refine al_end (ah_back hok11 hcl11 (fun w9 hs => ((hs.fewer 1 rfl).tail 1 rfl)) ?_)
            refine ah_one 9 rfl (by kernel_rfl) (fun hok12 hcl12 => ?_)
            refine al_call Tryz.call52 (.cons rfl (.cons rfl .nil)) rfl rfl (fun w14 hs14 => ?_)
            refine (sum_any Q.B Q2.B Q.lb Q.cb Q2.lb Q2.cb C.shells D.shells _ (hC.shells.below hs14.below) (hD.shells.below hs14.below) (by omega) (by omega) (fun y hy => by have := hf.shells.2 y hy; omega) (fun y hy => by have := hg.shells.2 y hy; omega)).mono ?_
            rintro e u14 ⟨A2, c2, rfl, N2, hb_14⟩
            refine ⟨_, rfl, hb_14, ?_⟩
            clear hs14
            refine al_end (ah_back hok12 hcl12 (fun w9 hs => ((hs.fewer 2 rfl).tail 1 rfl)) ?_)
            refine ah_one 14 rfl (by kernel_rfl) (fun hok13 hcl13 => ?_)
            refine al_call Tryz.call52 (.cons rfl (.cons rfl .nil)) rfl rfl (fun w15 hs15 => ?_)
            refine (sum_any Q.C Q2.C Q.lc Q.cc Q2.lc Q2.cc C.plasma D.plasma _ (hC.plasma.below hs15.below) (hD.plasma.below hs15.below) (by omega) (by omega) (fun y hy => by have := hf.plasma.2 y hy; omega) (fun y hy => by have := hg.plasma.2 y hy; omega)).mono ?_
            rintro e u15 ⟨A3, c3, rfl, N3, hb_15⟩
            refine ⟨_, rfl, hb_15, ?_⟩
            clear hs15
            refine al_end (ah_back hok13 hcl13 (fun w9 hs => ((hs.fewer 3 rfl).tail 1 rfl)) ?_)
            refine ah_take 15 (fun w9 hs => ((hs.fewer 3 rfl).tail 1 rfl)) rfl rfl rfl (by kernel_rfl) (by kernel_rfl) (by kernel_rfl) (fun _ _ _ h => h) rfl (q_build (.cons rfl (.cons rfl (.cons rfl .nil))) (lin2_bl_apiCurrents_0_1_2 _ _ _ rfl rfl rfl)) ?_
            refine ah_one 17 rfl (by kernel_rfl) (fun hok14 hcl14 => ?_)
            refine al_storeAll (i := 0) rfl rfl rfl rfl Tryz.sizeOf34 rfl rfl .k0 rfl ?_
            refine al_end (ah_last (by kernel_rfl) ?_)
            refine aq_then ?_
            exact aq_sub (hX9 (⟨A1, A2, A3, c1, c2, c3, w13.heap.size, w14.heap.size, w15.heap.size, b7, u13, u14, u15⟩) (⟨N1, N2, N3⟩)) ⟨rfl, rfl, rfl, rfl, rfl, trivial⟩ (fun w9 hs => hs.firstSnaps 3 rfl)
        · refine ac_seq ?_
          refine ac_seq ?_
          refine ac_region ?_
          refine al_q (q_loadAll (i := 3) rfl rfl Tryz.isAgg29 Tryz.sizeOf29 rfl) rfl rfl rfl ?_
          refine al_q (q_loadAll (i := 0) rfl rfl Tryz.isAgg34 Tryz.sizeOf34 rfl) rfl rfl rfl ?_
          refine al_call Tryz.call39 (.cons rfl (.cons rfl .nil)) rfl rfl (fun w16 hs16 => ?_)
          refine (rvalid2_any R M (x.q C D) (addC C D) _ (hM.below hs16.below) (linC hF9 hf hg hs16 (.tail _ (.tail _ (.head _))) (.tail _ (.head _)) (.head _))).mono ?_
          rintro e u16 ⟨rfl, hb_16⟩
          refine ⟨_, rfl, hb_16, ?_⟩
          clear hs16
          refine al_q (q_not rfl) rfl rfl rfl ?_
          refine al_end ?_
          refine aq_then ?_
          refine ac_cond rfl (fun h2 => ?_) (fun h2 => ?_)
          · skip
            refine ac_seq ?_
            refine ac_region ?_
            refine al_call Tryz.call19 .nil rfl rfl (fun w17 hs17 => ?_)
            refine (awake2_any _ (hE.below hs17.below)).mono ?_
            rintro e u17 ⟨rfl, hb_17⟩
            refine ⟨_, rfl, hb_17, ?_⟩
            clear hs17
            refine al_q (q_assign rfl) rfl rfl rfl ?_
            refine al_end ?_
            refine aq_then ?_
            refine ac_ret ?_
            refine aq_thenR ?_
            refine ret1 Tryz.results9 rfl (fun w9 hs => ?_)
            exact ⟨rfl, hs.below⟩
          · have hv : Fit2 M (addC C D) := fit2_iff.1 (by simpa using h2)
            have hll := hM.limits.1
            have hlo := limits_ok hf.check
            have hnear : ∀ p ∈ ((⟨0, 0⟩ : PointD) :: M.limits), (-100 ≤ p.r ∧ p.r ≤ 100) ∧ -100 ≤ p.z ∧ p.z ≤ 100 := fun p hp => by
              rcases List.mem_cons.1 hp with rfl | h
              · simp
              · have := hlo.2 p h; omega
            have hsm1 := (small_of hf).bd
            have hsm2 := (small_of hg).bd
            refine ac_skip ?_
            refine aq_then ?_
            refine ac_seq ?_
            refine ac_region ?_
            refine al_q (q_build .nil (lin2_bl_apiPoint_)) rfl rfl rfl ?_
            refine al_new (fun b => .slice (some ⟨b, 0, none⟩) 1 1) (r_buildSlice (.cons rfl .nil) (lin2_bs_apiPoint_1_0_ _ _)) rfl rfl rfl ?_
            intro b8
            refine al_q (q_fieldAddr 3 rfl Tryz.runUnderlying29 rfl Tryz.sizeOf24 (by decide) rfl) rfl rfl rfl ?_
            refine al_q (q_load (i := 4) rfl rfl rfl Tryz.isAgg24) rfl rfl rfl ?_
            refine al_appendS (i := 0) (z := 2) (bytes := 16) (zv := (.agg #[.int .i64 0, .int .i64 0])) (xs := [.int .i64 0, .int .i64 0]) (sp := []) (vs := (M.limits.flatMap PointD.cells)) rfl rfl rfl rfl (by omega) (by omega) rfl (Sor.list (enc := PointD.cells) (zs := M.limits) (fun _ => rfl) (fun _ => rfl) hll (fun w9 hs => hM.limits.below hs.below)) Tryz.underlying24 (by kernel_rfl) rfl (by omega) (by decide) rfl rfl (fun b9 c_b9 sp_b9 hc_b9 hk_b9 hl_b9 => ?_)
            refine ⟨_, .k0, ?_⟩
            have hpt := pts_get ((⟨0, 0⟩ : PointD) :: M.limits) sp_b9
            refine al_q (q_assign rfl) rfl rfl rfl ?_
            refine al_end ?_
            refine aq_then ?_
            refine ac_seq ?_
            refine ac_seq ?_
            refine ac_region ?_
            refine al_q (q_assign rfl) rfl rfl rfl ?_
            refine al_end ?_
            refine aq_then ?_
            refine ac_block ?_
            refine ac_loop (β := Nat) (fun k => k ≤ R.lc + 1) (fun k => [(3, (.pointer (some ⟨b1, 0, none⟩))), (4, (.pointer (some ⟨b2, 0, none⟩))), (5, (.pointer (some ⟨b3, 0, none⟩))), (6, (.bool false)), (7, (.pointer (some ⟨x.b, 0, none⟩))), (8, (.slice (some ⟨b9, 0, none⟩) (1 + R.lc) c_b9)), (9, (.int .i64 (k : Int)))]) (fun _ => _) (fun k => [(b9, _), (x.b, _), (b3, _), (b2, _), (b1, _)]) (fun k => R.lc + 1 - k) 0 (by omega) ⟨rfl, rfl, rfl, rfl, rfl, rfl, rfl, trivial⟩ (fun w9 hs => hs) (fun k hF1 => ?_)
            refine ac_seq ?_
            refine ac_seq ?_
            refine ac_region ?_
            refine al_q (q_move rfl) rfl rfl rfl ?_
            refine al_q (q_move rfl) rfl rfl rfl ?_
            refine al_q (q_lenS rfl Tryz.runUnderlying24) rfl rfl rfl ?_
            refine al_q (q_lss rfl rfl) rfl rfl rfl ?_
            refine al_end ?_
            refine aq_then ?_
            refine ac_cond rfl (fun h3 => ?_) (fun h3 => ?_)
            · have hkl : k < 1 + R.lc := by have := of_decide_eq_true h3; omega
              obtain ⟨p, hp⟩ : ∃ p, ((⟨0, 0⟩ : PointD) :: M.limits)[k]? = some p := ⟨_, List.getElem?_eq_getElem (by simp; omega)⟩
              have hpn := hnear p (List.mem_of_getElem? hp)
              have r1 := hsm1 (p.r, p.z)
              have r2 := hsm2 (p.r, p.z)
              have r3 := hsm1 (p.r, p.z - 1)
              have r4 := hsm2 (p.r, p.z - 1)
              have r5 := hsm1 (p.r, p.z + 1)
              have r6 := hsm2 (p.r, p.z + 1)
              have r7 := hsm1 (p.r + 1, p.z)
              have r8 := hsm2 (p.r + 1, p.z)
              have r9 := hsm1 (p.r - 1, p.z)
              have ra := hsm2 (p.r - 1, p.z)
              have f1 := flux_add (p.r, p.z) hf hg
              have f2 := flux_add (p.r, p.z - 1) hf hg
              have f3 := flux_add (p.r, p.z + 1) hf hg
              have f4 := flux_add (p.r + 1, p.z) hf hg
              have f5 := flux_add (p.r - 1, p.z) hf hg
              refine ac_skip ?_
              refine aq_then ?_
              refine ac_seq ?_
              refine ac_block ?_
              refine ac_seq ?_
              refine ac_draw 11 (by kernel_rfl) (by kernel_rfl) ?_
              refine ah_take 0 (fun w9 hs => hs) rfl rfl rfl (by kernel_rfl) (by kernel_rfl) (by kernel_rfl) (fun _ _ _ h => h) rfl (q_loadAll (i := 4) rfl rfl Tryz.isAgg29 Tryz.sizeOf29 rfl) ?_
              refine ah_take 1 (fun w9 hs => hs) rfl rfl rfl (by kernel_rfl) (by kernel_rfl) (by kernel_rfl) (fun _ _ _ h => h) rfl (q_loadAll (i := 3) rfl rfl Tryz.isAgg34 Tryz.sizeOf34 rfl) ?_
              refine ah_take 2 (fun w9 hs => hs) rfl rfl rfl (by kernel_rfl) (by kernel_rfl) (by kernel_rfl) (fun _ _ _ h => h) rfl (q_move rfl) ?_
              refine ah_take 3 (fun w9 hs => hs) rfl rfl rfl (by kernel_rfl) (by kernel_rfl) (by kernel_rfl) (fun _ _ _ h => h) rfl (q_move rfl) ?_
              refine ah_take 4 (fun w9 hs => hs) rfl rfl rfl (by kernel_rfl) (by kernel_rfl) (by kernel_rfl) (fun _ _ _ h => h) rfl (q_indexAddr (i := k) (0 + k * 2 + 0) rfl rfl rfl (by omega) Tryz.runUnderlying24 Tryz.sizeOf40 rfl) ?_
              refine ah_take 5 (fun w9 hs => hs) rfl rfl rfl (by kernel_rfl) (by kernel_rfl) (by kernel_rfl) (fun _ _ _ h => h) rfl (q_loadXs (PointD.cells p) rfl Tryz.isAgg40 Tryz.sizeOf40 (fun w9 hs j9 v9 h9 => by rw [addr_add]; exact ((hs.at 0 rfl).cell _ rfl _ _ ((hpt k p hp) j9 v9 h9)).1) rfl) ?_
              refine ah_one 6 rfl (by kernel_rfl) (fun hok15 hcl15 => ?_)
              refine al_call Tryz.call42 (.cons rfl (.cons rfl (.cons rfl .nil))) rfl rfl (fun w18 hs18 => ?_)
              refine (flux_good R M Q C p.r p.z _ (hM.below hs18.below) (hC.below hs18.below) hf hpn).mono ?_
              rintro e u18 ⟨rfl, hb_18⟩
              refine ⟨_, rfl, hb_18, ?_⟩
              clear hs18
              refine al_end (ah_back hok15 hcl15 (fun w9 hs => (hs.fewer 1 rfl)) ?_)
              refine ah_take 7 (fun w9 hs => (hs.fewer 1 rfl)) rfl rfl rfl (by kernel_rfl) (by kernel_rfl) (by kernel_rfl) (fun _ _ _ h => h) rfl (q_move rfl) ?_
              refine ah_take 8 (fun w9 hs => (hs.fewer 1 rfl)) rfl rfl rfl (by kernel_rfl) (by kernel_rfl) (by kernel_rfl) (fun _ _ _ h => h) rfl (q_extract rfl rfl) ?_
              refine ah_take 9 (fun w9 hs => (hs.fewer 1 rfl)) rfl rfl rfl (by kernel_rfl) (by kernel_rfl) (by kernel_rfl) (fun _ _ _ h => h) rfl (q_extract rfl rfl) ?_
              refine ah_one 10 rfl (by kernel_rfl) (fun hok16 hcl16 => ?_)
              refine al_q (q_assign rfl) rfl rfl rfl ?_
              refine al_end (ah_back hok16 hcl16 (fun w9 hs => (hs.fewer 1 rfl)) ?_)
              refine ah_one 11 rfl (by kernel_rfl) (fun hok17 hcl17 => ?_)
              refine al_q (q_assign rfl) rfl rfl rfl ?_
              refine al_end (ah_last (by kernel_rfl) ?_)
              refine aq_then ?_
              refine aq_keepL [3, 4, 5, 6, 7, 8, 9, 10, 11, 65, 66, 67, 68, 71, 72, 73, 74, 75, 76, 77, 78, 79, 80] (.cons rfl (.cons rfl (.cons rfl (.cons rfl (.cons rfl (.cons rfl (.cons rfl (.cons rfl (.cons rfl (.cons rfl (.cons rfl (.cons rfl (.cons rfl (.cons rfl (.cons rfl (.cons rfl (.cons rfl (.cons rfl (.cons rfl (.cons rfl (.cons rfl (.cons rfl (.cons rfl .nil))))))))))))))))))))))) ?_
              refine ac_seq ?_
              refine ac_draw 11 (by kernel_rfl) (by kernel_rfl) ?_
              refine ah_take 0 (fun w9 hs => hs) rfl rfl rfl (by kernel_rfl) (by kernel_rfl) (by kernel_rfl) (fun _ _ _ h => h) rfl (q_loadAll (i := 4) rfl rfl Tryz.isAgg29 Tryz.sizeOf29 rfl) ?_
              refine ah_take 1 (fun w9 hs => hs) rfl rfl rfl (by kernel_rfl) (by kernel_rfl) (by kernel_rfl) (fun _ _ _ h => h) rfl (q_loadAll (i := 2) rfl rfl Tryz.isAgg34 Tryz.sizeOf34 rfl) ?_
              refine ah_take 2 (fun w9 hs => hs) rfl rfl rfl (by kernel_rfl) (by kernel_rfl) (by kernel_rfl) (fun _ _ _ h => h) rfl (q_move rfl) ?_
              refine ah_take 3 (fun w9 hs => hs) rfl rfl rfl (by kernel_rfl) (by kernel_rfl) (by kernel_rfl) (fun _ _ _ h => h) rfl (q_move rfl) ?_
              refine ah_take 4 (fun w9 hs => hs) rfl rfl rfl (by kernel_rfl) (by kernel_rfl) (by kernel_rfl) (fun _ _ _ h => h) rfl (q_indexAddr (i := k) (0 + k * 2 + 0) rfl rfl rfl (by omega) Tryz.runUnderlying24 Tryz.sizeOf40 rfl) ?_
              refine ah_take 5 (fun w9 hs => hs) rfl rfl rfl (by kernel_rfl) (by kernel_rfl) (by kernel_rfl) (fun _ _ _ h => h) rfl (q_loadXs (PointD.cells p) rfl Tryz.isAgg40 Tryz.sizeOf40 (fun w9 hs j9 v9 h9 => by rw [addr_add]; exact ((hs.at 0 rfl).cell _ rfl _ _ ((hpt k p hp) j9 v9 h9)).1) rfl) ?_
              refine ah_one 6 rfl (by kernel_rfl) (fun hok18 hcl18 => ?_)
              refine al_call Tryz.call42 (.cons rfl (.cons rfl (.cons rfl .nil))) rfl rfl (fun w19 hs19 => ?_)
              refine (flux_good R M Q2 D p.r p.z _ (hM.below hs19.below) (hD.below hs19.below) hg hpn).mono ?_
              rintro e u19 ⟨rfl, hb_19⟩
              refine ⟨_, rfl, hb_19, ?_⟩
              clear hs19
              refine al_end (ah_back hok18 hcl18 (fun w9 hs => (hs.fewer 1 rfl)) ?_)
              refine ah_take 7 (fun w9 hs => (hs.fewer 1 rfl)) rfl rfl rfl (by kernel_rfl) (by kernel_rfl) (by kernel_rfl) (fun _ _ _ h => h) rfl (q_move rfl) ?_
              refine ah_take 8 (fun w9 hs => (hs.fewer 1 rfl)) rfl rfl rfl (by kernel_rfl) (by kernel_rfl) (by kernel_rfl) (fun _ _ _ h => h) rfl (q_extract rfl rfl) ?_
              refine ah_take 9 (fun w9 hs => (hs.fewer 1 rfl)) rfl rfl rfl (by kernel_rfl) (by kernel_rfl) (by kernel_rfl) (fun _ _ _ h => h) rfl (q_extract rfl rfl) ?_
              refine ah_one 10 rfl (by kernel_rfl) (fun hok19 hcl19 => ?_)
              refine al_q (q_assign rfl) rfl rfl rfl ?_
              refine al_end (ah_back hok19 hcl19 (fun w9 hs => (hs.fewer 1 rfl)) ?_)
              refine ah_one 11 rfl (by kernel_rfl) (fun hok20 hcl20 => ?_)
              refine al_q (q_assign rfl) rfl rfl rfl ?_
              refine al_end (ah_last (by kernel_rfl) ?_)
              refine aq_then ?_
              refine ac_seq ?_
              refine ac_draw 11 (by kernel_rfl) (by kernel_rfl) ?_
              refine ah_take 0 (fun w9 hs => hs) rfl rfl rfl (by kernel_rfl) (by kernel_rfl) (by kernel_rfl) (fun _ _ _ h => h) rfl (q_loadAll (i := 4) rfl rfl Tryz.isAgg29 Tryz.sizeOf29 rfl) ?_
              refine ah_take 1 (fun w9 hs => hs) rfl rfl rfl (by kernel_rfl) (by kernel_rfl) (by kernel_rfl) (fun _ _ _ h => h) rfl (q_loadAll (i := 1) rfl rfl Tryz.isAgg34 Tryz.sizeOf34 rfl) ?_
              refine ah_take 2 (fun w9 hs => hs) rfl rfl rfl (by kernel_rfl) (by kernel_rfl) (by kernel_rfl) (fun _ _ _ h => h) rfl (q_move rfl) ?_
              refine ah_take 3 (fun w9 hs => hs) rfl rfl rfl (by kernel_rfl) (by kernel_rfl) (by kernel_rfl) (fun _ _ _ h => h) rfl (q_move rfl) ?_
              refine ah_take 4 (fun w9 hs => hs) rfl rfl rfl (by kernel_rfl) (by kernel_rfl) (by kernel_rfl) (fun _ _ _ h => h) rfl (q_indexAddr (i := k) (0 + k * 2 + 0) rfl rfl rfl (by omega) Tryz.runUnderlying24 Tryz.sizeOf40 rfl) ?_
              refine ah_take 5 (fun w9 hs => hs) rfl rfl rfl (by kernel_rfl) (by kernel_rfl) (by kernel_rfl) (fun _ _ _ h => h) rfl (q_loadXs (PointD.cells p) rfl Tryz.isAgg40 Tryz.sizeOf40 (fun w9 hs j9 v9 h9 => by rw [addr_add]; exact ((hs.at 0 rfl).cell _ rfl _ _ ((hpt k p hp) j9 v9 h9)).1) rfl) ?_
              refine ah_one 6 rfl (by kernel_rfl) (fun hok21 hcl21 => ?_)
              refine al_call Tryz.call42 (.cons rfl (.cons rfl (.cons rfl .nil))) rfl rfl (fun w20 hs20 => ?_)
              refine (flux_good R M (x.q C D) (addC C D) p.r p.z _ (hM.below hs20.below) (linC hF9 hf hg hs20 (.tail _ (.tail _ (.tail _ (.tail _ (.tail _ (.head _)))))) (.tail _ (.tail _ (.tail _ (.tail _ (.head _))))) (.tail _ (.tail _ (.tail _ (.head _))))) hv hpn).mono ?_
              rintro e u20 ⟨rfl, hb_20⟩
              refine ⟨_, rfl, hb_20, ?_⟩
              clear hs20
              refine al_end (ah_back hok21 hcl21 (fun w9 hs => (hs.fewer 1 rfl)) ?_)
              refine ah_take 7 (fun w9 hs => (hs.fewer 1 rfl)) rfl rfl rfl (by kernel_rfl) (by kernel_rfl) (by kernel_rfl) (fun _ _ _ h => h) rfl (q_move rfl) ?_
              refine ah_take 8 (fun w9 hs => (hs.fewer 1 rfl)) rfl rfl rfl (by kernel_rfl) (by kernel_rfl) (by kernel_rfl) (fun _ _ _ h => h) rfl (q_extract rfl rfl) ?_
              refine ah_take 9 (fun w9 hs => (hs.fewer 1 rfl)) rfl rfl rfl (by kernel_rfl) (by kernel_rfl) (by kernel_rfl) (fun _ _ _ h => h) rfl (q_extract rfl rfl) ?_
              refine ah_one 10 rfl (by kernel_rfl) (fun hok22 hcl22 => ?_)
              refine al_q (q_assign rfl) rfl rfl rfl ?_
              refine al_end (ah_back hok22 hcl22 (fun w9 hs => (hs.fewer 1 rfl)) ?_)
              refine ah_one 11 rfl (by kernel_rfl) (fun hok23 hcl23 => ?_)
              refine al_q (q_assign rfl) rfl rfl rfl ?_
              refine al_end (ah_last (by kernel_rfl) ?_)
              refine aq_then ?_
              refine ac_seq ?_
              refine ac_seq ?_
              refine ac_region ?_
              refine al_q (q_move rfl) rfl rfl rfl ?_
              refine al_q (q_same (v' := .bool false) (q_neq rfl rfl) (by simp)) rfl rfl rfl ?_
              refine al_q (q_move rfl) rfl rfl rfl ?_
              refine al_q (q_move rfl) rfl rfl rfl ?_
              refine al_q (q_same (v' := .bool false) (q_neq rfl rfl) (by simp)) rfl rfl rfl ?_
              refine al_q (q_pickF rfl rfl) rfl rfl rfl ?_
              refine al_q (q_move rfl) rfl rfl rfl ?_
              refine al_q (q_move rfl) rfl rfl rfl ?_
              refine al_q (q_same (v' := .bool false) (q_neq rfl rfl) (by simp)) rfl rfl rfl ?_
              refine al_q (q_pickF rfl rfl) rfl rfl rfl ?_
              refine al_q (q_move rfl) rfl rfl rfl ?_
              refine al_q (q_move rfl) rfl rfl rfl ?_
              refine al_q (q_move rfl) rfl rfl rfl ?_
              refine al_q (q_add rfl rfl (by omega)) rfl rfl rfl ?_
              refine al_q (q_move rfl) rfl rfl rfl ?_
              refine al_q (q_same (v' := .bool false) (q_neq rfl rfl) (by simp; omega)) rfl rfl rfl ?_
              refine al_q (q_pickF rfl rfl) rfl rfl rfl ?_
              refine al_end ?_
              refine aq_then ?_
              refine ac_condF rfl ?_
              refine ac_skip ?_
              refine aq_then ?_
              refine ac_seq ?_
              refine ac_draw 13 (by kernel_rfl) (by kernel_rfl) ?_
              refine ah_take 0 (fun w9 hs => hs) rfl rfl rfl (by kernel_rfl) (by kernel_rfl) (by kernel_rfl) (fun _ _ _ h => h) rfl (q_loadAll (i := 4) rfl rfl Tryz.isAgg29 Tryz.sizeOf29 rfl) ?_
              refine ah_take 1 (fun w9 hs => hs) rfl rfl rfl (by kernel_rfl) (by kernel_rfl) (by kernel_rfl) (fun _ _ _ h => h) rfl (q_loadAll (i := 3) rfl rfl Tryz.isAgg34 Tryz.sizeOf34 rfl) ?_
              refine ah_take 2 (fun w9 hs => hs) rfl rfl rfl (by kernel_rfl) (by kernel_rfl) (by kernel_rfl) (fun _ _ _ h => h) rfl (q_move rfl) ?_
              refine ah_take 3 (fun w9 hs => hs) rfl rfl rfl (by kernel_rfl) (by kernel_rfl) (by kernel_rfl) (fun _ _ _ h => h) rfl (q_move rfl) ?_
              refine ah_take 4 (fun w9 hs => hs) rfl rfl rfl (by kernel_rfl) (by kernel_rfl) (by kernel_rfl) (fun _ _ _ h => h) rfl (q_indexAddr (i := k) (0 + k * 2 + 0) rfl rfl rfl (by omega) Tryz.runUnderlying24 Tryz.sizeOf40 rfl) ?_
              refine ah_take 5 (fun w9 hs => hs) rfl rfl rfl (by kernel_rfl) (by kernel_rfl) (by kernel_rfl) (fun _ _ _ h => h) rfl (q_loadXs (PointD.cells p) rfl Tryz.isAgg40 Tryz.sizeOf40 (fun w9 hs j9 v9 h9 => by rw [addr_add]; exact ((hs.at 0 rfl).cell _ rfl _ _ ((hpt k p hp) j9 v9 h9)).1) rfl) ?_
              refine ah_one 6 rfl (by kernel_rfl) (fun hok24 hcl24 => ?_)
              refine al_call Tryz.call44 (.cons rfl (.cons rfl (.cons rfl .nil))) rfl rfl (fun w21 hs21 => ?_)
              refine (field_good R M Q C p.r p.z _ (hM.below hs21.below) (hC.below hs21.below) hf hpn).mono ?_
              rintro e u21 ⟨rfl, hb_21⟩
              refine ⟨_, rfl, hb_21, ?_⟩
              clear hs21
              refine al_end (ah_back hok24 hcl24 (fun w9 hs => (hs.fewer 1 rfl)) ?_)
              refine ah_take 7 (fun w9 hs => (hs.fewer 1 rfl)) rfl rfl rfl (by kernel_rfl) (by kernel_rfl) (by kernel_rfl) (fun _ _ _ h => h) rfl (q_move rfl) ?_
              refine ah_take 8 (fun w9 hs => (hs.fewer 1 rfl)) rfl rfl rfl (by kernel_rfl) (by kernel_rfl) (by kernel_rfl) (fun _ _ _ h => h) rfl (q_extract rfl rfl) ?_
              refine ah_take 9 (fun w9 hs => (hs.fewer 1 rfl)) rfl rfl rfl (by kernel_rfl) (by kernel_rfl) (by kernel_rfl) (fun _ _ _ h => h) rfl (q_extract rfl rfl) ?_
              refine ah_take 10 (fun w9 hs => (hs.fewer 1 rfl)) rfl rfl rfl (by kernel_rfl) (by kernel_rfl) (by kernel_rfl) (fun _ _ _ h => h) rfl (q_extract rfl rfl) ?_
              refine ah_one 11 rfl (by kernel_rfl) (fun hok25 hcl25 => ?_)
              refine al_q (q_assign rfl) rfl rfl rfl ?_
              refine al_end (ah_back hok25 hcl25 (fun w9 hs => (hs.fewer 1 rfl)) ?_)
              refine ah_one 12 rfl (by kernel_rfl) (fun hok26 hcl26 => ?_)
              refine al_q (q_assign rfl) rfl rfl rfl ?_
              refine al_end (ah_back hok26 hcl26 (fun w9 hs => (hs.fewer 1 rfl)) ?_)
              refine ah_one 13 rfl (by kernel_rfl) (fun hok27 hcl27 => ?_)
              refine al_q (q_assign rfl) rfl rfl rfl ?_
              refine al_end (ah_last (by kernel_rfl) ?_)
              refine aq_then ?_
              refine ac_seq ?_
              refine ac_draw 13 (by kernel_rfl) (by kernel_rfl) ?_
              refine ah_take 0 (fun w9 hs => hs) rfl rfl rfl (by kernel_rfl) (by kernel_rfl) (by kernel_rfl) (fun _ _ _ h => h) rfl (q_loadAll (i := 4) rfl rfl Tryz.isAgg29 Tryz.sizeOf29 rfl) ?_
              refine ah_take 1 (fun w9 hs => hs) rfl rfl rfl (by kernel_rfl) (by kernel_rfl) (by kernel_rfl) (fun _ _ _ h => h) rfl (q_loadAll (i := 2) rfl rfl Tryz.isAgg34 Tryz.sizeOf34 rfl) ?_
              refine ah_take 2 (fun w9 hs => hs) rfl rfl rfl (by kernel_rfl) (by kernel_rfl) (by kernel_rfl) (fun _ _ _ h => h) rfl (q_move rfl) ?_
              refine ah_take 3 (fun w9 hs => hs) rfl rfl rfl (by kernel_rfl) (by kernel_rfl) (by kernel_rfl) (fun _ _ _ h => h) rfl (q_move rfl) ?_
              refine ah_take 4 (fun w9 hs => hs) rfl rfl rfl (by kernel_rfl) (by kernel_rfl) (by kernel_rfl) (fun _ _ _ h => h) rfl (q_indexAddr (i := k) (0 + k * 2 + 0) rfl rfl rfl (by omega) Tryz.runUnderlying24 Tryz.sizeOf40 rfl) ?_
              refine ah_take 5 (fun w9 hs => hs) rfl rfl rfl (by kernel_rfl) (by kernel_rfl) (by kernel_rfl) (fun _ _ _ h => h) rfl (q_loadXs (PointD.cells p) rfl Tryz.isAgg40 Tryz.sizeOf40 (fun w9 hs j9 v9 h9 => by rw [addr_add]; exact ((hs.at 0 rfl).cell _ rfl _ _ ((hpt k p hp) j9 v9 h9)).1) rfl) ?_
              refine ah_one 6 rfl (by kernel_rfl) (fun hok28 hcl28 => ?_)
              refine al_call Tryz.call44 (.cons rfl (.cons rfl (.cons rfl .nil))) rfl rfl (fun w22 hs22 => ?_)
              refine (field_good R M Q2 D p.r p.z _ (hM.below hs22.below) (hD.below hs22.below) hg hpn).mono ?_
              rintro e u22 ⟨rfl, hb_22⟩
              refine ⟨_, rfl, hb_22, ?_⟩
              clear hs22
              refine al_end (ah_back hok28 hcl28 (fun w9 hs => (hs.fewer 1 rfl)) ?_)
              refine ah_take 7 (fun w9 hs => (hs.fewer 1 rfl)) rfl rfl rfl (by kernel_rfl) (by kernel_rfl) (by kernel_rfl) (fun _ _ _ h => h) rfl (q_move rfl) ?_
              refine ah_take 8 (fun w9 hs => (hs.fewer 1 rfl)) rfl rfl rfl (by kernel_rfl) (by kernel_rfl) (by kernel_rfl) (fun _ _ _ h => h) rfl (q_extract rfl rfl) ?_
              refine ah_take 9 (fun w9 hs => (hs.fewer 1 rfl)) rfl rfl rfl (by kernel_rfl) (by kernel_rfl) (by kernel_rfl) (fun _ _ _ h => h) rfl (q_extract rfl rfl) ?_
              refine ah_take 10 (fun w9 hs => (hs.fewer 1 rfl)) rfl rfl rfl (by kernel_rfl) (by kernel_rfl) (by kernel_rfl) (fun _ _ _ h => h) rfl (q_extract rfl rfl) ?_
              refine ah_one 11 rfl (by kernel_rfl) (fun hok29 hcl29 => ?_)
              refine al_q (q_assign rfl) rfl rfl rfl ?_
              refine al_end (ah_back hok29 hcl29 (fun w9 hs => (hs.fewer 1 rfl)) ?_)
              refine ah_one 12 rfl (by kernel_rfl) (fun hok30 hcl30 => ?_)
              refine al_q (q_assign rfl) rfl rfl rfl ?_
              refine al_end (ah_back hok30 hcl30 (fun w9 hs => (hs.fewer 1 rfl)) ?_)
              refine ah_one 13 rfl (by kernel_rfl) (fun hok31 hcl31 => ?_)
              refine al_q (q_assign rfl) rfl rfl rfl ?_
              refine al_end (ah_last (by kernel_rfl) ?_)
              refine aq_then ?_
              refine aq_keepL [3, 4, 5, 6, 7, 8, 9, 10, 11, 12, 13, 14, 15, 16, 17, 18, 19, 65, 66, 67, 68, 71, 72, 73, 74, 75, 76, 77, 78, 79, 80, 81, 82, 83, 84, 85, 86, 87, 88, 89, 90, 91, 92, 93, 94, 95, 96, 97, 98, 99, 100, 101, 102, 103, 104, 105, 106, 107, 108, 109, 110, 111, 112, 113, 114, 115, 116, 117, 118, 119, 120, 121, 122, 123, 124, 125, 126, 127, 128, 129, 130, 131, 132, 133, 134, 135, 136, 137, 138, 139] (.cons rfl (.cons rfl (.cons rfl (.cons rfl (.cons rfl (.cons rfl (.cons rfl (.cons rfl (.cons rfl (.cons rfl (.cons rfl (.cons rfl (.cons rfl (.cons rfl (.cons rfl (.cons rfl (.cons rfl (.cons rfl (.cons rfl (.cons rfl (.cons rfl (.cons rfl (.cons rfl (.cons rfl (.cons rfl (.cons rfl (.cons rfl (.cons rfl (.cons rfl (.cons rfl (.cons rfl (.cons rfl (.cons rfl (.cons rfl (.cons rfl (.cons rfl (.cons rfl (.cons rfl (.cons rfl (.cons rfl (.cons rfl (.cons rfl (.cons rfl (.cons rfl (.cons rfl (.cons rfl (.cons rfl (.cons rfl (.cons rfl (.cons rfl (.cons rfl (.cons rfl (.cons rfl (.cons rfl (.cons rfl (.cons rfl (.cons rfl (.cons rfl (.cons rfl (.cons rfl (.cons rfl (.cons rfl (.cons rfl (.cons rfl (.cons rfl (.cons rfl (.cons rfl (.cons rfl (.cons rfl (.cons rfl (.cons rfl (.cons rfl (.cons rfl (.cons rfl (.cons rfl (.cons rfl (.cons rfl (.cons rfl (.cons rfl (.cons rfl (.cons rfl (.cons rfl (.cons rfl (.cons rfl (.cons rfl (.cons rfl (.cons rfl (.cons rfl (.cons rfl (.cons rfl .nil)))))))))))))))))))))))))))))))))))))))))))))))))))))))))))))))))))))))))))))))))))))))))) ?_
              refine ac_seq ?_
              refine ac_draw 13 (by kernel_rfl) (by kernel_rfl) ?_
              refine ah_take 0 (fun w9 hs => hs) rfl rfl rfl (by kernel_rfl) (by kernel_rfl) (by kernel_rfl) (fun _ _ _ h => h) rfl (q_loadAll (i := 4) rfl rfl Tryz.isAgg29 Tryz.sizeOf29 rfl) ?_
              refine ah_take 1 (fun w9 hs => hs) rfl rfl rfl (by kernel_rfl) (by kernel_rfl) (by kernel_rfl) (fun _ _ _ h => h) rfl (q_loadAll (i := 1) rfl rfl Tryz.isAgg34 Tryz.sizeOf34 rfl) ?_
              refine ah_take 2 (fun w9 hs => hs) rfl rfl rfl (by kernel_rfl) (by kernel_rfl) (by kernel_rfl) (fun _ _ _ h => h) rfl (q_move rfl) ?_
              refine ah_take 3 (fun w9 hs => hs) rfl rfl rfl (by kernel_rfl) (by kernel_rfl) (by kernel_rfl) (fun _ _ _ h => h) rfl (q_move rfl) ?_
              refine ah_take 4 (fun w9 hs => hs) rfl rfl rfl (by kernel_rfl) (by kernel_rfl) (by kernel_rfl) (fun _ _ _ h => h) rfl (q_indexAddr (i := k) (0 + k * 2 + 0) rfl rfl rfl (by omega) Tryz.runUnderlying24 Tryz.sizeOf40 rfl) ?_
              refine ah_take 5 (fun w9 hs => hs) rfl rfl rfl (by kernel_rfl) (by kernel_rfl) (by kernel_rfl) (fun _ _ _ h => h) rfl (q_loadXs (PointD.cells p) rfl Tryz.isAgg40 Tryz.sizeOf40 (fun w9 hs j9 v9 h9 => by rw [addr_add]; exact ((hs.at 0 rfl).cell _ rfl _ _ ((hpt k p hp) j9 v9 h9)).1) rfl) ?_
              refine ah_one 6 rfl (by kernel_rfl) (fun hok32 hcl32 => ?_)
              refine al_call Tryz.call44 (.cons rfl (.cons rfl (.cons rfl .nil))) rfl rfl (fun w23 hs23 => ?_)
              refine (field_good R M (x.q C D) (addC C D) p.r p.z _ (hM.below hs23.below) (linC hF9 hf hg hs23 (.tail _ (.tail _ (.tail _ (.tail _ (.tail _ (.tail _ (.tail _ (.tail _ (.head _))))))))) (.tail _ (.tail _ (.tail _ (.tail _ (.tail _ (.tail _ (.tail _ (.head _)))))))) (.tail _ (.tail _ (.tail _ (.tail _ (.tail _ (.tail _ (.head _)))))))) hv hpn).mono ?_
              rintro e u23 ⟨rfl, hb_23⟩
              refine ⟨_, rfl, hb_23, ?_⟩
              clear hs23
              refine al_end (ah_back hok32 hcl32 (fun w9 hs => (hs.fewer 1 rfl)) ?_)
              refine ah_take 7 (fun w9 hs => (hs.fewer 1 rfl)) rfl rfl rfl (by kernel_rfl) (by kernel_rfl) (by kernel_rfl) (fun _ _ _ h => h) rfl (q_move rfl) ?_
              refine ah_take 8 (fun w9 hs => (hs.fewer 1 rfl)) rfl rfl rfl (by kernel_rfl) (by kernel_rfl) (by kernel_rfl) (fun _ _ _ h => h) rfl (q_extract rfl rfl) ?_
              refine ah_take 9 (fun w9 hs => (hs.fewer 1 rfl)) rfl rfl rfl (by kernel_rfl) (by kernel_rfl) (by kernel_rfl) (fun _ _ _ h => h) rfl (q_extract rfl rfl) ?_
              refine ah_take 10 (fun w9 hs => (hs.fewer 1 rfl)) rfl rfl rfl (by kernel_rfl) (by kernel_rfl) (by kernel_rfl) (fun _ _ _ h => h) rfl (q_extract rfl rfl) ?_
              refine ah_one 11 rfl (by kernel_rfl) (fun hok33 hcl33 => ?_)
              refine al_q (q_assign rfl) rfl rfl rfl ?_
              refine al_end (ah_back hok33 hcl33 (fun w9 hs => (hs.fewer 1 rfl)) ?_)
              refine ah_one 12 rfl (by kernel_rfl) (fun hok34 hcl34 => ?_)
              refine al_q (q_assign rfl) rfl rfl rfl ?_
              refine al_end (ah_back hok34 hcl34 (fun w9 hs => (hs.fewer 1 rfl)) ?_)
              refine ah_one 13 rfl (by kernel_rfl) (fun hok35 hcl35 => ?_)
              refine al_q (q_assign rfl) rfl rfl rfl ?_
              refine al_end (ah_last (by kernel_rfl) ?_)
              refine aq_then ?_
              refine ac_seq ?_
              refine ac_region ?_
              refine al_q (q_move rfl) rfl rfl rfl ?_
              refine al_q (q_same (v' := .bool false) (q_neq rfl rfl) (by simp)) rfl rfl rfl ?_
              refine al_q (q_move rfl) rfl rfl rfl ?_
              refine al_q (q_move rfl) rfl rfl rfl ?_
              refine al_q (q_same (v' := .bool false) (q_neq rfl rfl) (by simp)) rfl rfl rfl ?_
              refine al_q (q_pickF rfl rfl) rfl rfl rfl ?_
              refine al_q (q_move rfl) rfl rfl rfl ?_
              refine al_q (q_move rfl) rfl rfl rfl ?_
              refine al_q (q_same (v' := .bool false) (q_neq rfl rfl) (by simp)) rfl rfl rfl ?_
              refine al_q (q_pickF rfl rfl) rfl rfl rfl ?_
              refine al_q (q_move rfl) rfl rfl rfl ?_
              refine al_q (q_move rfl) rfl rfl rfl ?_
              refine al_q (q_move rfl) rfl rfl rfl ?_
              refine al_q (q_add rfl rfl (by omega)) rfl rfl rfl ?_
              refine al_q (q_move rfl) rfl rfl rfl ?_
              refine al_q (q_same (v' := .bool false) (q_neq rfl rfl) (by simp; omega)) rfl rfl rfl ?_
              refine al_q (q_pickF rfl rfl) rfl rfl rfl ?_
              refine al_q (q_move rfl) rfl rfl rfl ?_
              refine al_q (q_move rfl) rfl rfl rfl ?_
              refine al_q (q_move rfl) rfl rfl rfl ?_
              refine al_q (q_add rfl rfl (by omega)) rfl rfl rfl ?_
              refine al_q (q_move rfl) rfl rfl rfl ?_
              refine al_q (q_same (v' := .bool false) (q_neq rfl rfl) (by simp; omega)) rfl rfl rfl ?_
              refine al_q (q_pickF rfl rfl) rfl rfl rfl ?_
              refine al_end ?_
              refine aq_then ?_
              refine ac_condF rfl ?_
              refine ac_skip ?_
              refine aq_inN ?_
              refine aq_then ?_
              refine ac_region ?_
              refine al_q (q_move rfl) rfl rfl rfl ?_
              refine al_q (q_add rfl rfl (by omega)) rfl rfl rfl ?_
              refine al_q (q_assign rfl) rfl rfl rfl ?_
              refine al_end ?_
              refine aq_then ?_
              skip
              refine aq_round (k + 1) (by omega) (by omega) ⟨rfl, rfl, rfl, rfl, rfl, rfl, rfl, trivial⟩ (fun w9 hs => (hs.fewer 6 rfl))
            · skip
              refine ac_exit ?_
              refine aq_thenE ?_
              refine aq_thenE ?_
              refine aq_hit ?_
              refine aq_then ?_
              refine ac_seq ?_
              refine ac_region ?_
              refine al_call Tryz.call19 .nil rfl rfl (fun w24 hs24 => ?_)
              refine (awake2_any _ (hE.below hs24.below)).mono ?_
              rintro e u24 ⟨rfl, hb_24⟩
              refine ⟨_, rfl, hb_24, ?_⟩
              clear hs24
              refine al_q (q_assign rfl) rfl rfl rfl ?_
              refine al_end ?_
              refine aq_then ?_
              refine ac_ret ?_
              refine ret1 Tryz.results9 rfl (fun w9 hs => ?_)
              exact ⟨rfl, hs.below⟩

set_option maxRecDepth 100000 in
theorem rplasma_big (R : MachR) (M : MachD) (A : Option Addr) (len cap : Nat) (w : World) (hl : 1000000000000000 < len) (g0 : 1 ≤ M.grid.nr * M.grid.nz) (g1 : M.grid.nr * M.grid.nz ≤ 64) : Calls Tryz.prog 82 #[(.agg (machCells R M)), (.slice A len cap)] w (Ret (.bool false) w) := by
  refine calls_ax (vs := [(.agg (machCells R M)), (.slice A len cap)]) Tryz.func82 rfl rfl ?_
  refine ac_seq ?_
  refine ac_region ?_
  refine al_new (fun b => .pointer (some ⟨b, 0, none⟩)) (r_box rfl rfl) rfl rfl rfl ?_
  intro b1
  refine al_q (q_assign rfl) rfl rfl rfl ?_
  refine al_end ?_
  refine aq_then ?_
  refine ac_seq ?_
  refine ac_seq ?_
  refine ac_region ?_
  refine al_q (q_move rfl) rfl rfl rfl ?_
  refine al_q (q_lenS rfl Tryz.runUnderlying32) rfl rfl rfl ?_
  refine al_q (q_fieldAddr 4 rfl Tryz.runUnderlying29 rfl Tryz.sizeOf26 (by decide) rfl) rfl rfl rfl ?_
  refine al_q (q_fieldAddr 6 rfl Tryz.runUnderlying26 rfl Tryz.sizeOf3 (by decide) rfl) rfl rfl rfl ?_
  refine al_q (q_load (i := 0) rfl rfl rfl Tryz.isAgg3) rfl rfl rfl ?_
  refine al_q (q_fieldAddr 4 rfl Tryz.runUnderlying29 rfl Tryz.sizeOf26 (by decide) rfl) rfl rfl rfl ?_
  refine al_q (q_fieldAddr 7 rfl Tryz.runUnderlying26 rfl Tryz.sizeOf3 (by decide) rfl) rfl rfl rfl ?_
  refine al_q (q_load (i := 0) rfl rfl rfl Tryz.isAgg3) rfl rfl rfl ?_
  refine al_q (q_mul rfl rfl (by omega)) rfl rfl rfl ?_
  refine al_q (q_neq rfl rfl) rfl rfl rfl ?_
  refine al_end ?_
  refine aq_then ?_
  refine ac_cond rfl (fun h1 => ?_) (fun h1 => ?_)
  · refine ac_seq ?_
    refine ac_region ?_
    refine al_q (q_assign rfl) rfl rfl rfl ?_
    refine al_end ?_
    refine aq_then ?_
    refine ac_ret ?_
    refine aq_thenR ?_
    refine ret1 Tryz.results82 rfl (fun w9 hs => ?_)
    exact ⟨rfl, hs.below⟩
  · exfalso; have := h1; simp at this; omega

set_option maxRecDepth 100000 in
theorem rvalid_big (R : MachR) (M : MachD) (Q : CurR) (C : CurD) (w : World) (hM : IsM w R M) (hB : ¬ (Q.la ≤ 1000000000000000 ∧ Q.lb ≤ 1000000000000000 ∧ Q.lc ≤ 1000000000000000)) : Calls Tryz.prog 39 #[(.agg (machCells R M)), Q.v] w (Ret (.bool false) w) := by
  have k1 := hM.ka
  have k2 := hM.kb
  refine calls_ax (vs := [(.agg (machCells R M)), Q.v]) Tryz.func39 rfl rfl ?_
  refine ac_seq ?_
  refine ac_region ?_
  refine al_new (fun b => .pointer (some ⟨b, 0, none⟩)) (r_box rfl rfl) rfl rfl rfl ?_
  intro b1
  refine al_new (fun b => .pointer (some ⟨b, 0, none⟩)) (r_box rfl rfl) rfl rfl rfl ?_
  intro b2
  refine al_q (q_assign rfl) rfl rfl rfl ?_
  refine al_end ?_
  refine aq_then ?_
  refine ac_seq ?_
  refine ac_seq ?_
  refine ac_region ?_
  refine al_q (q_loadAll (i := 1) rfl rfl Tryz.isAgg29 Tryz.sizeOf29 rfl) rfl rfl rfl ?_
  refine al_call Tryz.call18 (.cons rfl .nil) rfl rfl (fun w1 hs1 => ?_)
  refine (rcheck_any R M _ (hM.below hs1.below)).mono ?_
  rintro e u1 ⟨rfl, hb_1⟩
  refine ⟨_, rfl, hb_1, ?_⟩
  clear hs1
  refine al_q (q_neq rfl rfl) rfl rfl rfl ?_
  refine al_q (q_move rfl) rfl rfl rfl ?_
  refine aq_split 10 rfl (fun hb1 => ?_) (fun hb1 => ?_)
  · skip
    refine al_skip rfl rfl rfl ?_
    refine al_skip rfl rfl rfl ?_
    refine al_skip rfl rfl rfl ?_
    refine al_skip rfl rfl rfl ?_
    refine al_skip rfl rfl rfl ?_
    refine al_skip rfl rfl rfl ?_
    refine al_skip rfl rfl rfl ?_
    refine al_q (q_pickT rfl rfl) rfl rfl rfl ?_
    refine al_q (q_move rfl) rfl rfl rfl ?_
    refine al_skip rfl rfl rfl ?_
    refine al_skip rfl rfl rfl ?_
    refine al_skip rfl rfl rfl ?_
    refine al_skip rfl rfl rfl ?_
    refine al_skip rfl rfl rfl ?_
    refine al_skip rfl rfl rfl ?_
    refine al_skip rfl rfl rfl ?_
    refine al_q (q_pickT rfl rfl) rfl rfl rfl ?_
    refine al_q (q_move rfl) rfl rfl rfl ?_
    refine al_skip rfl rfl rfl ?_
    refine al_skip rfl rfl rfl ?_
    refine al_skip rfl rfl rfl ?_
    refine al_skip rfl rfl rfl ?_
    refine al_skip rfl rfl rfl ?_
    refine al_q (q_pickT rfl rfl) rfl rfl rfl ?_
    refine al_end ?_
    refine aq_then ?_
    refine ac_condT rfl ?_
    refine ac_seq ?_
    refine ac_region ?_
    refine al_q (q_assign rfl) rfl rfl rfl ?_
    refine al_end ?_
    refine aq_then ?_
    refine ac_ret ?_
    refine aq_thenR ?_
    refine ret1 Tryz.results39 rfl (fun w9 hs => ?_)
    exact ⟨rfl, hs.below⟩
  · have hc : checkC M = 0 := by simpa using hb1
    have hcf := cells_fine (sound_of hc).grid
    refine al_q (q_fieldAddr 0 rfl Tryz.runUnderlying34 rfl Tryz.sizeOf32 (by decide) rfl) rfl rfl rfl ?_
    refine al_q (q_load (i := 0) rfl rfl rfl Tryz.isAgg32) rfl rfl rfl ?_
    refine al_q (q_lenS rfl Tryz.runUnderlying32) rfl rfl rfl ?_
    refine al_q (q_fieldAddr 1 rfl Tryz.runUnderlying29 rfl Tryz.sizeOf22 (by decide) rfl) rfl rfl rfl ?_
    refine al_q (q_load (i := 1) rfl rfl rfl Tryz.isAgg22) rfl rfl rfl ?_
    refine al_q (q_lenS rfl Tryz.runUnderlying22) rfl rfl rfl ?_
    refine al_q (q_neq rfl rfl) rfl rfl rfl ?_
    refine al_q (q_pickF rfl rfl) rfl rfl rfl ?_
    refine al_q (q_move rfl) rfl rfl rfl ?_
    refine aq_split 19 rfl (fun hb2 => ?_) (fun hb2 => ?_)
    · skip
      refine al_skip rfl rfl rfl ?_
      refine al_skip rfl rfl rfl ?_
      refine al_skip rfl rfl rfl ?_
      refine al_skip rfl rfl rfl ?_
      refine al_skip rfl rfl rfl ?_
      refine al_skip rfl rfl rfl ?_
      refine al_skip rfl rfl rfl ?_
      refine al_q (q_pickT rfl rfl) rfl rfl rfl ?_
      refine al_q (q_move rfl) rfl rfl rfl ?_
      refine al_skip rfl rfl rfl ?_
      refine al_skip rfl rfl rfl ?_
      refine al_skip rfl rfl rfl ?_
      refine al_skip rfl rfl rfl ?_
      refine al_skip rfl rfl rfl ?_
      refine al_q (q_pickT rfl rfl) rfl rfl rfl ?_
      refine al_end ?_
      refine aq_then ?_
      refine ac_condT rfl ?_
      refine ac_seq ?_
      refine ac_region ?_
      refine al_q (q_assign rfl) rfl rfl rfl ?_
      refine al_end ?_
      refine aq_then ?_
      refine ac_ret ?_
      refine aq_thenR ?_
      refine ret1 Tryz.results39 rfl (fun w9 hs => ?_)
      exact ⟨rfl, hs.below⟩
    · have q1 : Q.la = R.la := by have := hb2; simp at this; omega
      refine al_q (q_fieldAddr 1 rfl Tryz.runUnderlying34 rfl Tryz.sizeOf32 (by decide) rfl) rfl rfl rfl ?_
      refine al_q (q_load (i := 0) rfl rfl rfl Tryz.isAgg32) rfl rfl rfl ?_
      refine al_q (q_lenS rfl Tryz.runUnderlying32) rfl rfl rfl ?_
      refine al_q (q_fieldAddr 2 rfl Tryz.runUnderlying29 rfl Tryz.sizeOf23 (by decide) rfl) rfl rfl rfl ?_
      refine al_q (q_load (i := 1) rfl rfl rfl Tryz.isAgg23) rfl rfl rfl ?_
      refine al_q (q_lenS rfl Tryz.runUnderlying23) rfl rfl rfl ?_
      refine al_q (q_neq rfl rfl) rfl rfl rfl ?_
      refine al_q (q_pickF rfl rfl) rfl rfl rfl ?_
      refine al_q (q_move rfl) rfl rfl rfl ?_
      refine aq_split 28 rfl (fun hb3 => ?_) (fun hb3 => ?_)
      · skip
        refine al_skip rfl rfl rfl ?_
        refine al_skip rfl rfl rfl ?_
        refine al_skip rfl rfl rfl ?_
        refine al_skip rfl rfl rfl ?_
        refine al_skip rfl rfl rfl ?_
        refine al_q (q_pickT rfl rfl) rfl rfl rfl ?_
        refine al_end ?_
        refine aq_then ?_
        refine ac_condT rfl ?_
        refine ac_seq ?_
        refine ac_region ?_
        refine al_q (q_assign rfl) rfl rfl rfl ?_
        refine al_end ?_
        refine aq_then ?_
        refine ac_ret ?_
        refine aq_thenR ?_
        refine ret1 Tryz.results39 rfl (fun w9 hs => ?_)
        exact ⟨rfl, hs.below⟩
      · have q2 : Q.lb = R.lb := by have := hb3; simp at this; omega
        refine al_q (q_loadAll (i := 1) rfl rfl Tryz.isAgg29 Tryz.sizeOf29 rfl) rfl rfl rfl ?_
        refine al_q (q_fieldAddr 2 rfl Tryz.runUnderlying34 rfl Tryz.sizeOf32 (by decide) rfl) rfl rfl rfl ?_
        refine al_q (q_load (i := 0) rfl rfl rfl Tryz.isAgg32) rfl rfl rfl ?_
        refine al_call Tryz.call82 (.cons rfl (.cons rfl .nil)) rfl rfl (fun w2 hs2 => ?_)
        refine (rplasma_big R M Q.C Q.lc Q.cc _ (by omega) (by omega) (by omega)).mono ?_
        rintro e u2 ⟨rfl, hb_2⟩
        refine ⟨_, rfl, hb_2, ?_⟩
        clear hs2
        refine al_q (q_not rfl) rfl rfl rfl ?_
        refine al_q (q_pickF rfl rfl) rfl rfl rfl ?_
        refine al_end ?_
        refine aq_then ?_
        refine ac_condT rfl ?_
        refine ac_seq ?_
        refine ac_region ?_
        refine al_q (q_assign rfl) rfl rfl rfl ?_
        refine al_end ?_
        refine aq_then ?_
        refine ac_ret ?_
        refine aq_thenR ?_
        refine ret1 Tryz.results39 rfl (fun w9 hs => ?_)
        exact ⟨rfl, hs.below⟩

set_option maxRecDepth 100000 in
theorem linear_big (R : MachR) (M : MachD) (Q Q2 : CurR) (C D : CurD) (W : World) (hE : Env W) (hM : R.la ≤ 1000000000000000 → R.lb ≤ 1000000000000000 → R.lc ≤ 1000000000000000 → R.ld ≤ 1000000000000000 → IsM W R M) (hC : OpC W Q C) (hB : ¬ (Q2.la ≤ 1000000000000000 ∧ Q2.lb ≤ 1000000000000000 ∧ Q2.lc ≤ 1000000000000000)) : Calls Tryz.prog 9 #[(.agg (machCells R M)), Q.v, Q2.v] W (Ret (.bool true) W) := by
  refine calls_ax (vs := [(.agg (machCells R M)), Q.v, Q2.v]) Tryz.func9 rfl rfl ?_
  refine ac_seq ?_
  refine ac_region ?_
  refine al_new (fun b => .pointer (some ⟨b, 0, none⟩)) (r_box rfl rfl) rfl rfl rfl ?_
  intro b1
  refine al_new (fun b => .pointer (some ⟨b, 0, none⟩)) (r_box rfl rfl) rfl rfl rfl ?_
  intro b2
  refine al_new (fun b => .pointer (some ⟨b, 0, none⟩)) (r_box rfl rfl) rfl rfl rfl ?_
  intro b3
  refine al_q (q_assign rfl) rfl rfl rfl ?_
  refine al_end ?_
  refine aq_then ?_
  refine ac_seq ?_
  refine ac_seq ?_
  refine ac_region ?_
  refine al_q (q_loadAll (i := 2) rfl rfl Tryz.isAgg29 Tryz.sizeOf29 rfl) rfl rfl rfl ?_
  refine al_q (q_loadAll (i := 1) rfl rfl Tryz.isAgg34 Tryz.sizeOf34 rfl) rfl rfl rfl ?_
  refine al_call Tryz.call16 (.cons rfl (.cons rfl .nil)) rfl rfl (fun w1 hs1 => ?_)
  refine (brief2_any R M Q _).mono ?_
  rintro e u1 ⟨rfl, hb_1⟩
  refine ⟨_, rfl, hb_1, ?_⟩
  clear hs1
  refine al_q (q_not rfl) rfl rfl rfl ?_
  refine al_q (q_move rfl) rfl rfl rfl ?_
  refine aq_split 26 rfl (fun hb1 => ?_) (fun hb1 => ?_)
  · skip
    refine al_skip rfl rfl rfl ?_
    refine al_skip rfl rfl rfl ?_
    refine al_skip rfl rfl rfl ?_
    refine al_skip rfl rfl rfl ?_
    refine al_q (q_pickT rfl rfl) rfl rfl rfl ?_
    refine al_q (q_move rfl) rfl rfl rfl ?_
    refine al_skip rfl rfl rfl ?_
    refine al_skip rfl rfl rfl ?_
    refine al_skip rfl rfl rfl ?_
    refine al_skip rfl rfl rfl ?_
    refine al_q (q_pickT rfl rfl) rfl rfl rfl ?_
    refine al_end ?_
    refine aq_then ?_
    refine ac_condT rfl ?_
    refine ac_seq ?_
    refine ac_region ?_
    refine al_call Tryz.call19 .nil rfl rfl (fun w2 hs2 => ?_)
    refine (awake2_any _ (hE.below hs2.below)).mono ?_
    rintro e u2 ⟨rfl, hb_2⟩
    refine ⟨_, rfl, hb_2, ?_⟩
    clear hs2
    refine al_q (q_assign rfl) rfl rfl rfl ?_
    refine al_end ?_
    refine aq_then ?_
    refine ac_ret ?_
    refine aq_thenR ?_
    refine ret1 Tryz.results9 rfl (fun w9 hs => ?_)
    exact ⟨rfl, hs.below⟩
  · have hbf := brief2_iff.1 (show brief2 R Q = true by simpa using hb1)
    have hM := hM (by omega) (by omega) (by omega) (by omega)
    have hC := hC.isC (by omega) (by omega) (by omega)
    refine al_q (q_loadAll (i := 2) rfl rfl Tryz.isAgg29 Tryz.sizeOf29 rfl) rfl rfl rfl ?_
    refine al_q (q_loadAll (i := 1) rfl rfl Tryz.isAgg34 Tryz.sizeOf34 rfl) rfl rfl rfl ?_
    refine al_call Tryz.call39 (.cons rfl (.cons rfl .nil)) rfl rfl (fun w3 hs3 => ?_)
    refine (rvalid2_any R M Q C _ (hM.below hs3.below) (hC.below hs3.below)).mono ?_
    rintro e u3 ⟨rfl, hb_3⟩
    refine ⟨_, rfl, hb_3, ?_⟩
    clear hs3
    refine al_q (q_not rfl) rfl rfl rfl ?_
    refine al_q (q_pickF rfl rfl) rfl rfl rfl ?_
    refine al_q (q_move rfl) rfl rfl rfl ?_
    refine aq_split 32 rfl (fun hb2 => ?_) (fun hb2 => ?_)
    · skip
      refine al_skip rfl rfl rfl ?_
      refine al_skip rfl rfl rfl ?_
      refine al_skip rfl rfl rfl ?_
      refine al_skip rfl rfl rfl ?_
      refine al_q (q_pickT rfl rfl) rfl rfl rfl ?_
      refine al_end ?_
      refine aq_then ?_
      refine ac_condT rfl ?_
      refine ac_seq ?_
      refine ac_region ?_
      refine al_call Tryz.call19 .nil rfl rfl (fun w4 hs4 => ?_)
      refine (awake2_any _ (hE.below hs4.below)).mono ?_
      rintro e u4 ⟨rfl, hb_4⟩
      refine ⟨_, rfl, hb_4, ?_⟩
      clear hs4
      refine al_q (q_assign rfl) rfl rfl rfl ?_
      refine al_end ?_
      refine aq_then ?_
      refine ac_ret ?_
      refine aq_thenR ?_
      refine ret1 Tryz.results9 rfl (fun w9 hs => ?_)
      exact ⟨rfl, hs.below⟩
    · skip
      refine al_q (q_loadAll (i := 2) rfl rfl Tryz.isAgg29 Tryz.sizeOf29 rfl) rfl rfl rfl ?_
      refine al_q (q_loadAll (i := 0) rfl rfl Tryz.isAgg34 Tryz.sizeOf34 rfl) rfl rfl rfl ?_
      refine al_call Tryz.call39 (.cons rfl (.cons rfl .nil)) rfl rfl (fun w5 hs5 => ?_)
      refine (rvalid_big R M Q2 D _ (hM.below hs5.below) hB).mono ?_
      rintro e u5 ⟨rfl, hb_5⟩
      refine ⟨_, rfl, hb_5, ?_⟩
      clear hs5
      refine al_q (q_not rfl) rfl rfl rfl ?_
      refine al_q (q_pickF rfl rfl) rfl rfl rfl ?_
      refine al_end ?_
      refine aq_then ?_
      refine ac_condT rfl ?_
      refine ac_seq ?_
      refine ac_region ?_
      refine al_call Tryz.call19 .nil rfl rfl (fun w6 hs6 => ?_)
      refine (awake2_any _ (hE.below hs6.below)).mono ?_
      rintro e u6 ⟨rfl, hb_6⟩
      refine ⟨_, rfl, hb_6, ?_⟩
      clear hs6
      refine al_q (q_assign rfl) rfl rfl rfl ?_
      refine al_end ?_
      refine aq_then ?_
      refine ac_ret ?_
      refine aq_thenR ?_
      refine ret1 Tryz.results9 rfl (fun w9 hs => ?_)
      exact ⟨rfl, hs.below⟩

theorem linear_walk (R : MachR) (M : MachD) (Q Q2 : CurR) (C D : CurD) (W : World) (hE : Env W) (hM : R.la ≤ 1000000000000000 → R.lb ≤ 1000000000000000 → R.lc ≤ 1000000000000000 → R.ld ≤ 1000000000000000 → IsM W R M) (hC : OpC W Q C) (hD : OpC W Q2 D) : Calls Tryz.prog 9 #[.agg (machCells R M), Q.v, Q2.v] W (Ret (.bool true) W) := by
  by_cases hB : Q2.la ≤ 1000000000000000 ∧ Q2.lb ≤ 1000000000000000 ∧ Q2.lc ≤ 1000000000000000
  · exact linear_ok R M Q Q2 C D W hE hM hC (hD.isC hB.1 hB.2.1 hB.2.2)
  · exact linear_big R M Q Q2 C D W hE hM hC hB

end Go.Proofs.YtjjajleiladbhaaGreatDoor
end
