import Derived.Test.YthggkidiidnaoaaGreatDoorKAQ
import Derived.Test.YthggkidiidnaoaaGreatDoorKAR
import Derived.Test.YthggkidiidnaoaaGreatDoorKAX
import Derived.Test.YthggkidiidnaoaaGreatDoorKBA
import Derived.Test.YthggkidiidnaoaaGreatDoorKBD
import Derived.Test.YthggkidiidnaoaaGreatDoorKBE
import Derived.Test.YthggkidiidnaoaaGreatDoorKBF
import Derived.Test.YthggkidiidnaoaaGreatDoorKBG
import Derived.Test.YthggkidiidnaoaaGreatDoorKBH
import Derived.Test.YthggkidiidnaoaaGreatDoorKBI
import Derived.Test.YthggkidiidnaoaaGreatDoorKBJ
import Derived.Test.YthggkidiidnaoaaGreatDoorRows
import Derived.KernelRfl
import Derived.Laws.StructEq
import Derived.OrdersIn
namespace Go.Proofs.YthggkidiidnaoaaGreatDoor
set_option linter.unusedVariables false
set_option linter.unusedSimpArgs false
section
open Go.RowKit
theorem Sta.isC4 {E : Cfg} {U : Snaps} {L : Boxes} {w u : World} {lo : Nat} {Q : CurR} {C : CurD} (h : Sta E U L w) (hu : (lo, u) ∈ U) (hC : IsC u Q C) (ha : ∀ b o, Q.A = some ⟨b, o, none⟩ → lo ≤ b) (hb : ∀ b o, Q.B = some ⟨b, o, none⟩ → lo ≤ b) (hc : ∀ b o, Q.C = some ⟨b, o, none⟩ → lo ≤ b) : IsC w Q C :=
 ⟨h.isT hu hC.coils (fun b o e => Or.inl (ha b o e)), h.isT hu hC.shells (fun b o e => Or.inl (hb b o e)), h.isT hu hC.plasma (fun b o e => Or.inl (hc b o e)), hC.la, hC.lb, hC.lc, hC.ca, hC.cb, hC.cc, hC.ka, hC.kb, hC.kc⟩
theorem flat_set (n j : Nat) : ((List.replicate n (0 : Int)).set j 1).flatMap intCells = (List.replicate n (Value.int .i64 0)).set j (.int .i64 1) := by
 rw [flat_int, List.map_set, List.map_replicate]
def respRow (M : MachD) (N k : Nat) : List Int := (List.range N).map fun (j : Nat) => (respL M (k : Int) (j : Int)).1
theorem respRow_length (M : MachD) (N k : Nat) : (respRow M N k).length = N := by simp [respRow]
theorem respRow_get {M : MachD} {N k j : Nat} (h : j < N) : (respRow M N k)[j]? = some (respL M (k : Int) (j : Int)).1 := by
 unfold respRow; rw [List.getElem?_map, List.getElem?_range h]; rfl
theorem respRow_take (M : MachD) (N k j : Nat) (hj : j < N) : (respRow M N k).take (j + 1) = (respRow M N k).take j ++ [(respL M (k : Int) (j : Int)).1] := by
 obtain ⟨h1, e⟩ := List.getElem?_eq_some_iff.1 (respRow_get (M := M) (k := k) hj)
 rw [List.take_succ_eq_append_getElem h1, e]
theorem bgL_len (M : MachD) (C : CurD) : (bgL M C).length = M.sensors.length := by simp [bgL]
theorem bgL_take {M : MachD} {C : CurD} {k : Nat} (h : k < M.sensors.length) : (bgL M C).take (k + 1) = (bgL M C).take k ++ [(backL M C (k : Int)).1] := by
 obtain ⟨h1, e⟩ := List.getElem?_eq_some_iff.1 (bgL_get (M := M) (C := C) h)
 rw [List.take_succ_eq_append_getElem h1, e]
def RowsG (f : Nat → List Int) (n : Nat) (G : Boxes) (rows : List (Option Addr × Nat)) : Prop := ∀ (i : Nat) r, rows[i]? = some r → ∃ b sp, r.1 = some ⟨b, 0, none⟩ ∧ (b, Cont.cells ((f i).map (Value.int .i64) ++ sp)) ∈ G ∧ n ≤ r.2 ∧ r.2 ≤ 9223372036854775807
theorem RowsG.snoc {f : Nat → List Int} {n : Nat} {G : Boxes} {rows : List (Option Addr × Nat)} (h : RowsG f n G rows) {o : Gr} {cs : List Value} (hg : gok o n 1 cs) (hn : 0 < n) (hcs : cs = (f rows.length).map (Value.int .i64)) : RowsG f n (gt o cs ++ G) (rows ++ [(gA o, gC o)]) := by
 intro i r hr
 rcases Nat.lt_or_ge i rows.length with g1 | g1
 ·rw [List.getElem?_append_left g1] at hr
  obtain ⟨b, sp, e, hm, h1⟩ := h i r hr
  exact ⟨b, sp, e, List.mem_append_right _ hm, h1⟩
 ·rw [List.getElem?_append_right g1] at hr
  have hi : i - rows.length = 0 := by
   have := (List.getElem?_eq_some_iff.1 hr).1
   simp only [List.length_cons, List.length_nil] at this; omega
  rw [hi] at hr
  obtain rfl : (gA o, gC o) = r := by simpa using hr
  obtain ⟨b, c, sp, rfl⟩ := hg.some hn
  obtain ⟨h1, h2, h3⟩ := hg.own b c sp rfl
  refine ⟨b, sp, rfl, List.mem_append_left _ ?_, h1, h2⟩
  rw [show i = rows.length by omega, ← hcs]; simp [gt]
theorem Sta.rowG {N : Nat} {D : List Deferred} {w0 w : World} {U : Snaps} {L G : Boxes} {f : Nat → List Int} {n : Nat} {rows : List (Option Addr × Nat)} (hf : ∀ i, (f i).length = n) (h : Sta ⟨N, D, w0, []⟩ U L w) (hG : ∀ x ∈ G, x ∈ L) (hr : RowsG f n G rows) : ∀ (i : Nat) r, rows[i]? = some r → NewT 1 intCells w0.heap.size w r.1 n r.2 (f i) := by
 intro i r hi
 obtain ⟨b, sp, e, hm, h1, h2⟩ := hr i r hi
 obtain ⟨j, hj⟩ := List.getElem?_of_mem (hG _ hm)
 refine ⟨?_, fun b' off e' => ?_, h1, h2⟩
 ·rw [e]; exact isT_box (n := 1) (enc := intCells) (fun _ => rfl) (h.at j hj) (flat_int _) (hf i)
 ·rw [e] at e'; cases e'
  rcases (h.box j _ _ hj).1 with g1 | g1
  ·exact g1
  ·cases g1
structure NewTab (M : MachD) (C : CurD) (N n B : Nat) (w : World) (A1 A2 : Option Addr) (c1 c2 : Nat) (rows : List (Option Addr × Nat)) : Prop where
 bg : NewT 1 intCells B w A1 n c1 (bgL M C)
 out : NewT 1 (slcs N) B w A2 n c2 rows
 row : ∀ (i : Nat) r, rows[i]? = some r → NewT 1 intCells B w r.1 N r.2 (respRow M N i)
structure TbS where
 (k : Nat) (o : Gr) (cs : List Value) (p : Gr) (ds : List Value) (G : Boxes) (rows : List (Option Addr × Nat))
set_option maxRecDepth 100000 in
theorem runit9_any (R : MachR) (M : MachD) (j : Nat) (w : World) (hM : IsM w R M) (hc : checkC M = 0) (hj : j < (M.grid.nr * M.grid.nz).toNat) : Calls Tryz.prog 56 #[(.agg (machCells R M)), (.int .i64 (j : Int))] w (fun e w' => ∃ x1 x2 x3, e = .returned (.agg #[.slice (some ⟨x1, 0, none⟩) R.la R.la, .slice (some ⟨x2, 0, none⟩) R.lb R.lb, .slice (some ⟨x3, 0, none⟩) (M.grid.nr * M.grid.nz).toNat (M.grid.nr * M.grid.nz).toNat]) ∧ IsC w' ⟨some ⟨x1, 0, none⟩, some ⟨x2, 0, none⟩, some ⟨x3, 0, none⟩, R.la, R.la, R.lb, R.lb, (M.grid.nr * M.grid.nz).toNat, (M.grid.nr * M.grid.nz).toNat⟩ (unitD M.coils.length M.shells.length (M.grid.nr * M.grid.nz).toNat j) ∧ (w.heap.size ≤ x1 ∧ w.heap.size ≤ x2 ∧ w.heap.size ≤ x3) ∧ Below w.heap.size w w') := by
 have hs0 := sound_of hc
 have hg := cells_fine hs0.grid
 have hsc := hs0.coils.1
 have hss := hs0.shells.1
 have hla := hM.coils.1
 have hlb := hM.shells.1
 refine calls_ax (vs := [(.agg (machCells R M)), (.int .i64 (j : Int))]) Tryz.func56 rfl rfl ?_
 refine ac_seq (ac_region ?_)
 refine al_new (fun b => .pointer (some ⟨b, 0, none⟩)) (r_box rfl rfl) rfl rfl rfl ?_
 intro b1
 refine al_new (fun b => .pointer (some ⟨b, 0, none⟩)) (r_alloc Tryz.zeroValue32 rfl) rfl rfl rfl ?_
 intro b2
 refine al_end (aq_then ?_)
 refine ac_seq (ac_region ?_)
 refine al_p (q_loadAll (i := 1) rfl rfl Tryz.isAgg29 Tryz.sizeOf29 rfl) (al_callS Tryz.call96 (.cons rfl .nil) rfl rfl (fun w1 hs1 => ?_))
 refine (rQuiet9_ok R M _ (hM.below hs1.below) hc).mono ?_
 rintro e u1 ⟨x1, x2, x3, rfl, hb_1⟩
 refine ⟨_, _, _, rfl, hs1.gift hb_1, ?_⟩
 refine al_new (fun b => .pointer (some ⟨b, 0, none⟩)) (r_alloc Tryz.zeroValue32 rfl) rfl rfl rfl ?_
 intro b3
 refine al_storeAll (i := 0) rfl rfl rfl rfl Tryz.sizeOf32 rfl rfl .k0 rfl (al_end (aq_then ?_))
 refine ac_seq (ac_region ?_)
 refine al_p (q_fieldAddr 2 rfl Tryz.runUnderlying32 rfl Tryz.sizeOf30 (by decide) rfl) (al_p (q_load (i := 0) rfl rfl rfl Tryz.isAgg30) (al_p (q_move rfl) ?_))
 refine al_p (q_indexAddr (i := j) (j) rfl rfl rfl hj Tryz.runUnderlying30 Tryz.sizeOf3 (by omega)) ?_
 refine al_store1 (i := 3) rfl rfl rfl rfl Tryz.sizeOf3 (SetAt.ofSet (by rw [List.length_replicate]; exact hj)) .k3 rfl (al_end (aq_then ?_))
 refine ac_seq (ac_region ?_)
 refine al_p (q_loadAll (i := 0) rfl rfl Tryz.isAgg32 Tryz.sizeOf32 rfl) (al_storeAll (i := 4) rfl rfl rfl rfl Tryz.sizeOf32 rfl rfl .k4 rfl (al_end (aq_then ?_)))
 refine ac_ret (retR Tryz.results56 (.agg (i := 4) rfl rfl Tryz.isAgg32 Tryz.sizeOf32 rfl .nil) .one (fun w9 hs => ?_))
 refine ⟨x1, x2, x3, rfl, ⟨?_, ?_, ?_, Nat.le_refl _, Nat.le_refl _, Nat.le_refl _, by simp only; omega, by simp only; omega, by simp only; omega, by simp only; omega, by simp only; omega, by simp only; omega⟩, ⟨hs.new 1 rfl _ 0 rfl, hs.new 2 rfl _ 0 rfl, hs.new 3 rfl _ 0 rfl⟩, hs.below⟩
 ·exact isT_box0 (n := 1) (enc := intCells) (fun _ => rfl) (hs.at 1 rfl) (by rw [unitD, hla]; exact flat_ints _) (by simp [unitD, hla])
 ·exact isT_box0 (n := 1) (enc := intCells) (fun _ => rfl) (hs.at 2 rfl) (by rw [unitD, hlb]; exact flat_ints _) (by simp [unitD, hlb])
 ·exact isT_box0 (n := 1) (enc := intCells) (fun _ => rfl) (hs.at 3 rfl) (flat_set _ _) (by simp [unitD])
theorem sxa_bs_int_1_0_ (a0 : Value) (ha0 : a0.oneCell' = true) : ∀ w, (Instr.buildSlice 30 1 #[(0, a0)]).run Tryz.prog w = .ok (.slice (some ⟨w.heap.size, 0, none⟩) 1 1) (w.alloc (.cells [a0].toArray 3)) := by
 have ea0 : a0.cells = #[a0] := cells_one ha0
 intro w; (simp [Instr.buildSlice, Instr.fill, cells_agg, newRow, Tryz.runUnderlying30, Tryz.zeroValue3, Tryz.sizeOf3, ea0] <;> (rw [(by kernel_rfl : Array.range 1 = #[0])]; simp [Value.cells]))
theorem sxa_bs_LLint_1_0_ (a0 : Value) (ha0 : a0.oneCell' = true) : ∀ w, (Instr.buildSlice 87 1 #[(0, a0)]).run Tryz.prog w = .ok (.slice (some ⟨w.heap.size, 0, none⟩) 1 1) (w.alloc (.cells [a0].toArray 30)) := by
 have ea0 : a0.cells = #[a0] := cells_one ha0
 intro w; (simp [Instr.buildSlice, Instr.fill, cells_agg, newRow, Tryz.runUnderlying87, Tryz.zeroValue30, Tryz.sizeOf30, ea0] <;> (rw [(by kernel_rfl : Array.range 1 = #[0])]; simp [Value.cells]))
set_option maxRecDepth 100000 in
theorem rtable_any (R : MachR) (M : MachD) (Q : CurR) (C : CurD) (w : World) (hM : IsM w R M) (hC : IsC w Q C) (hv : Fit2 M C) : Calls Tryz.prog 25 #[(.agg (machCells R M)), Q.v] w (fun e w' => ∃ A1 c1 A2 c2 rows, e = .returned (.agg #[.slice A1 R.ld c1, .slice A2 R.ld c2]) ∧ NewTab M C (M.grid.nr * M.grid.nz).toNat R.ld w.heap.size w' A1 A2 c1 c2 rows ∧ Below w.heap.size w w') := by
 have hvc := fit2_iff.2 hv
 have hs0 := sound_of hv.check
 have hg := cells_fine hs0.grid
 have hsc := hs0.coils.1
 have hss := hs0.shells.1
 have hsn := hs0.sensors.1
 have hla := hM.coils.1
 have hlb := hM.shells.1
 have hld := hM.sensors.1
 have hca := hv.coils.1
 have hcb := hv.shells.1
 have hcp := hv.plasma.1
 have qa := hC.coils.1
 have qb := hC.shells.1
 have qc := hC.plasma.1
 have hcn : cellsN M = M.grid.nr * M.grid.nz := by simp [cellsN, hv.check]
 refine calls_ax (vs := [(.agg (machCells R M)), Q.v]) Tryz.func25 rfl rfl ?_
 refine ac_seq (ac_region ?_)
 refine al_new (fun b => .pointer (some ⟨b, 0, none⟩)) (r_box rfl rfl) rfl rfl rfl ?_
 intro b1
 refine al_new (fun b => .pointer (some ⟨b, 0, none⟩)) (r_box rfl rfl) rfl rfl rfl ?_
 intro b2
 refine al_new (fun b => .pointer (some ⟨b, 0, none⟩)) (r_alloc Tryz.zeroValue89 rfl) rfl rfl rfl ?_
 intro b3
 refine al_end (aq_then ?_)
 refine ac_seq (ac_region ?_)
 refine al_new (fun b => .pointer (some ⟨b, 0, none⟩)) (r_alloc Tryz.zeroValue89 rfl) rfl rfl rfl ?_
 intro b4
 refine al_end (aq_then ?_)
 refine ac_seq (ac_seq (ac_region ?_))
 refine al_p (q_assign rfl) (al_end (aq_then ?_))
 refine ac_block (ac_loop (β := TbS) (fun x => x.k ≤ R.ld ∧ gok x.o x.k 1 x.cs ∧ x.cs = ((bgL M C).take x.k).map (Value.int .i64) ∧ gok x.p x.k 1 x.ds ∧ x.ds = x.rows.flatMap (slcs (M.grid.nr * M.grid.nz).toNat) ∧ x.rows.length = x.k ∧ RowsG (respRow M (M.grid.nr * M.grid.nz).toNat) (M.grid.nr * M.grid.nz).toNat x.G x.rows) (fun x => [(2, (.pointer (some ⟨b1, 0, none⟩))), (3, (.pointer (some ⟨b2, 0, none⟩))), (4, (.pointer (some ⟨b3, 0, none⟩))), (5, (.pointer (some ⟨b4, 0, none⟩))), (6, (.int .i64 (x.k : Int)))]) (fun _ => _) (fun x => (b4, .cells [(.slice (gA x.o) x.k (gC x.o)), (.slice (gA x.p) x.k (gC x.p))]) :: (b3, _) :: (b2, _) :: (b1, _) :: (gt x.o x.cs ++ (gt x.p x.ds ++ (x.G)))) (fun x => R.ld - x.k) ⟨0, none, [], none, [], [], []⟩ ⟨by simp, gok.none 1, by simp, gok.none 1, rfl, rfl, fun i r h => by simp at h⟩ ⟨rfl, rfl, rfl, rfl, rfl, trivial⟩ (fun w9 hs => hs) (fun x hF1 => ?_))
 obtain ⟨hxn, hgo, hcx, hgp, hdx, hrl, hri⟩ := hF1
 refine ac_seq (ac_seq (ac_region ?_))
 refine al_p (q_move rfl) ?_
 refine al_p (q_fieldAddr 9 rfl Tryz.runUnderlying29 rfl Tryz.sizeOf27 (by decide) rfl) (al_p (q_load (i := 3) rfl rfl rfl Tryz.isAgg27) (al_p (q_lenS rfl Tryz.runUnderlying27) (al_p (q_lss rfl rfl) (al_end (aq_then ?_)))))
 refine ac_cond rfl (fun h1 => ?_) (fun h1 => ?_)
 ·have hxl : x.k < R.ld := by have := of_decide_eq_true h1; omega
  have hbk : (backL M C (x.k : Int)).1 = (exactL M (darkD C) (x.k : Int)).1 := by rw [backL_eq hvc, if_pos (wthn_iff.2 ⟨by omega, by omega⟩)]
  refine ac_skip (aq_then (ac_seq (ac_block (ac_seq ?_))))
  refine ac_drawF 10 (.s (.s (.s (.s .z)))) (by kernel_rfl) (by kernel_rfl) ?_
  refine ah_t 0 (fun w9 hs => (hs.front (.s (.s (.s (.s (.z))))))) rfl rfl (by kernel_rfl) (q_loadAll (i := 3) rfl rfl Tryz.isAgg29 Tryz.sizeOf29 rfl) (ah_t 1 (fun w9 hs => (hs.front (.s (.s (.s (.s (.z))))))) rfl rfl (by kernel_rfl) (q_loadAll (i := 3) rfl rfl Tryz.isAgg29 Tryz.sizeOf29 rfl) (ah_t 2 (fun w9 hs => (hs.front (.s (.s (.s (.s (.z))))))) rfl rfl (by kernel_rfl) (q_loadAll (i := 2) rfl rfl Tryz.isAgg32 Tryz.sizeOf32 rfl) (ah_t 4 (fun w9 hs => (hs.front (.s (.s (.s (.s (.z))))))) rfl rfl (by kernel_rfl) (q_move rfl) (ah_one 3 rfl (by kernel_rfl) (fun hok1 hcl1 => ?_)))))
  refine al_call Tryz.call39 (.cons rfl (.cons rfl .nil)) rfl rfl (fun w1 hs1 => ?_)
  refine (rdark_any R M Q.A Q.B Q.C Q.la Q.ca Q.lb Q.cb Q.lc Q.cc C.coils C.shells _ (hC.coils.below hs1.below) (hC.shells.below hs1.below) (by omega) (by omega) (by omega)).mono ?_
  rintro e u1 ⟨dA, da, dB, db, dp, rfl, DK, hb_1⟩
  refine ⟨_, rfl, hb_1, ?_⟩
  clear hs1
  refine al_end (ah_back hok1 hcl1 (fun w9 hs => ((hs.fewer 1 rfl).front (.s (.s (.s (.s (.z))))))) ?_)
  refine ah_one 5 rfl (by kernel_rfl) (fun hok2 hcl2 => ?_)
  refine al_call Tryz.call55 (.cons rfl (.cons rfl (.cons rfl .nil))) rfl rfl (fun w2 hs2 => ?_)
  have hdk : IsC w2 ⟨dA, dB, some ⟨dp, 0, none⟩, Q.la, da, Q.lb, db, Q.lc, Q.lc⟩ (darkD C) := hs2.isC4 (.head _) (by have h9 := dark_isC DK (by omega) (by omega) (by omega); unfold darkD; rw [hC.plasma.1]; exact h9) (fun b o e => by have := DK.coils.new _ e; exact this) (fun b o e => by have := DK.shells.new _ e; exact this) (fun b o e => by cases e; exact DK.base)
  refine (rexact9_any R M ⟨dA, dB, some ⟨dp, 0, none⟩, Q.la, da, Q.lb, db, Q.lc, Q.lc⟩ (darkD C) (x.k : Int) _ (hM.below hs2.below) hdk).mono ?_
  rintro e u2 ⟨rfl, hb_2⟩
  refine ⟨_, rfl, hb_2, ?_⟩
  clear hs2
  refine al_end (ah_back hok2 hcl2 (fun w9 hs => ((hs.fewer 2 rfl).front (.s (.s (.s (.s (.z))))))) ?_)
  refine ah_t 6 (fun w9 hs => ((hs.fewer 2 rfl).front (.s (.s (.s (.s (.z))))))) rfl rfl (by kernel_rfl) (q_move rfl) (ah_t 7 (fun w9 hs => ((hs.fewer 2 rfl).front (.s (.s (.s (.s (.z))))))) rfl rfl (by kernel_rfl) (q_extract rfl rfl) (ah_t 8 (fun w9 hs => ((hs.fewer 2 rfl).front (.s (.s (.s (.s (.z))))))) rfl rfl (by kernel_rfl) (q_extract rfl rfl) (ah_one 9 rfl (by kernel_rfl) (fun hok3 hcl3 => ?_))))
  refine al_p (q_assign rfl) (al_end (ah_back hok3 hcl3 (fun w9 hs => ((hs.fewer 2 rfl).front (.s (.s (.s (.s (.z))))))) ?_))
  refine ah_one 10 rfl (by kernel_rfl) (fun hok4 hcl4 => ?_)
  refine al_p (q_assign rfl) (al_end (ah_last (by kernel_rfl) ?_))
  refine aq_then (ac_seq (ac_region ?_))
  refine al_p (q_fieldAddr 0 rfl Tryz.runUnderlying89 rfl Tryz.sizeOf30 (by decide) rfl) (al_p (q_load (i := 0) rfl rfl rfl Tryz.isAgg30) (al_p (q_move rfl) (al_new (fun b => .slice (some ⟨b, 0, none⟩) 1 1) (r_buildSlice (.cons rfl .nil) (sxa_bs_int_1_0_ _ rfl)) rfl rfl rfl ?_)))
  intro b5
  refine al_grow (z := 1) (bytes := 8) (zv := (.int .i64 0)) (o := x.o) (cs := x.cs) (vs := [.int .i64 (exactL M (darkD C) (x.k : Int)).1]) rfl rfl (.s (.s (.s (.s (.s (.z)))))) hgo (Sor.box (j := 0) rfl rfl rfl) Tryz.underlying30 (by kernel_rfl) rfl (by omega) (by decide) rfl rfl (fun o_1 g_1 => ?_)
  refine ⟨_, (.s (.s (.s (.s (.s (.z)))))), ?_⟩
  refine al_p (q_fieldAddr 0 rfl Tryz.runUnderlying89 rfl Tryz.sizeOf30 (by decide) rfl) (al_store1 (i := 1) rfl rfl rfl rfl Tryz.sizeOf30 .k0 .k1 rfl (al_end (aq_then ?_)))
  refine ac_seq (ac_region ?_)
  refine al_p (q_assign rfl) (al_end (aq_then ?_))
  refine ac_seq (ac_seq (ac_region ?_))
  refine al_p (q_assign rfl) (al_end (aq_then ?_))
  refine ac_block (ac_loop (β := Nat × Gr × List Value) (fun y => y.1 ≤ (M.grid.nr * M.grid.nz).toNat ∧ gok y.2.1 y.1 1 y.2.2 ∧ y.2.2 = ((respRow M (M.grid.nr * M.grid.nz).toNat x.k).take y.1).map (Value.int .i64)) (fun y => [(2, (.pointer (some ⟨b1, 0, none⟩))), (3, (.pointer (some ⟨b2, 0, none⟩))), (4, (.pointer (some ⟨b3, 0, none⟩))), (5, (.pointer (some ⟨b4, 0, none⟩))), (6, (.int .i64 (x.k : Int))), (7, (.int .i64 (exactL M (darkD C) (x.k : Int)).1)), (9, (.slice (gA y.2.1) y.1 (gC y.2.1))), (10, (.int .i64 (y.1 : Int))), (13, (.int .i64 (x.k : Int))), (14, (.pointer (some ⟨b1, 9, none⟩))), (15, (.slice (R.D) R.ld R.cd)), (16, (.int .i64 (R.ld : Int))), (21, (.agg (machCells R M))), (22, (.agg (machCells R M))), (23, Q.v), (24, (.agg #[.slice dA Q.la da, .slice dB Q.lb db, .slice (some ⟨dp, 0, none⟩) Q.lc Q.lc])), (25, (.int .i64 (x.k : Int))), (27, (.int .i64 (exactL M (darkD C) (x.k : Int)).1)), (28, (.int .i64 (exactL M (darkD C) (x.k : Int)).2)), (29, (.pointer (some ⟨b4, 0, none⟩))), (30, (.slice (gA x.o) x.k (gC x.o))), (31, (.int .i64 (exactL M (darkD C) (x.k : Int)).1)), (32, (.slice (some ⟨b5, 0, none⟩) 1 1)), (33, (.slice (gA o_1) (x.k + 1) (gC o_1))), (34, (.pointer (some ⟨b4, 0, none⟩)))]) (fun _ => _) (fun y => (b5, _) :: (b4, _) :: (b3, _) :: (b2, _) :: (b1, _) :: (gt y.2.1 y.2.2 ++ (gt o_1 (x.cs ++ [.int .i64 (exactL M (darkD C) (x.k : Int)).1]) ++ (gt x.p x.ds ++ (x.G))))) (fun y => (M.grid.nr * M.grid.nz).toNat - y.1) (0, none, []) ⟨by simp, gok.none 1, by simp⟩ ⟨rfl, rfl, rfl, rfl, rfl, rfl, rfl, rfl, rfl, rfl, rfl, rfl, rfl, rfl, rfl, rfl, rfl, rfl, rfl, rfl, rfl, rfl, rfl, rfl, rfl, trivial⟩ (fun w9 hs => hs) (fun y hF2 => ?_))
  obtain ⟨hyn, hgy, hcy⟩ := hF2
  refine ac_seq (ac_seq (ac_region ?_))
  refine al_p (q_move rfl) (al_p (q_loadAll (i := 4) rfl rfl Tryz.isAgg29 Tryz.sizeOf29 rfl) (al_call Tryz.call26 (.cons rfl .nil) rfl rfl (fun w3 hs3 => ?_)))
  refine (rcellsN_any R M _ (hM.below hs3.below)).mono ?_
  rintro e u3 ⟨rfl, hb_3⟩
  refine ⟨_, rfl, hb_3, ?_⟩
  clear hs3
  refine al_p (q_lss rfl rfl) (al_end (aq_then ?_))
  refine ac_cond rfl (fun h2 => ?_) (fun h2 => ?_)
  ·have hyl : y.1 < (M.grid.nr * M.grid.nz).toNat := by have := of_decide_eq_true h2; omega
   have hrs : (respL M (x.k : Int) (y.1 : Int)).1 = (exactL M (unitD M.coils.length M.shells.length (M.grid.nr * M.grid.nz).toNat y.1) (x.k : Int)).1 := by rw [respL_eq hv.check (nc := (M.grid.nr * M.grid.nz).toNat) (by omega) (wthn_iff.2 ⟨by omega, by omega⟩) hyl]
   refine ac_skip (aq_then (ac_seq (ac_block (ac_seq ?_))))
   refine ac_drawF 10 (.s (.s (.s (.s (.s .z))))) (by kernel_rfl) (by kernel_rfl) ?_
   refine ah_t 0 (fun w9 hs => (hs.front (.s (.s (.s (.s (.s (.z)))))))) rfl rfl (by kernel_rfl) (q_loadAll (i := 4) rfl rfl Tryz.isAgg29 Tryz.sizeOf29 rfl) (ah_t 1 (fun w9 hs => (hs.front (.s (.s (.s (.s (.s (.z)))))))) rfl rfl (by kernel_rfl) (q_loadAll (i := 4) rfl rfl Tryz.isAgg29 Tryz.sizeOf29 rfl) (ah_t 2 (fun w9 hs => (hs.front (.s (.s (.s (.s (.s (.z)))))))) rfl rfl (by kernel_rfl) (q_move rfl) (ah_t 4 (fun w9 hs => (hs.front (.s (.s (.s (.s (.s (.z)))))))) rfl rfl (by kernel_rfl) (q_move rfl) (ah_one 3 rfl (by kernel_rfl) (fun hok5 hcl5 => ?_)))))
   refine al_call Tryz.call56 (.cons rfl (.cons rfl .nil)) rfl rfl (fun w4 hs4 => ?_)
   refine (runit9_any R M y.1 _ (hM.below hs4.below) hv.check (by omega)).mono ?_
   rintro e u4 ⟨x1, x2, x3, rfl, XC, XB, hb_4⟩
   refine ⟨_, rfl, hb_4, ?_⟩
   clear hs4
   refine al_end (ah_back hok5 hcl5 (fun w9 hs => ((hs.fewer 1 rfl).front (.s (.s (.s (.s (.s (.z)))))))) ?_)
   refine ah_one 5 rfl (by kernel_rfl) (fun hok6 hcl6 => ?_)
   refine al_call Tryz.call55 (.cons rfl (.cons rfl (.cons rfl .nil))) rfl rfl (fun w5 hs5 => ?_)
   have hun : IsC w5 ⟨some ⟨x1, 0, none⟩, some ⟨x2, 0, none⟩, some ⟨x3, 0, none⟩, R.la, R.la, R.lb, R.lb, (M.grid.nr * M.grid.nz).toNat, (M.grid.nr * M.grid.nz).toNat⟩ (unitD M.coils.length M.shells.length (M.grid.nr * M.grid.nz).toNat y.1) := hs5.isC4 (.head _) XC (fun b o e => by cases e; exact XB.1) (fun b o e => by cases e; exact XB.2.1) (fun b o e => by cases e; exact XB.2.2)
   refine (rexact9_any R M ⟨some ⟨x1, 0, none⟩, some ⟨x2, 0, none⟩, some ⟨x3, 0, none⟩, R.la, R.la, R.lb, R.lb, (M.grid.nr * M.grid.nz).toNat, (M.grid.nr * M.grid.nz).toNat⟩ (unitD M.coils.length M.shells.length (M.grid.nr * M.grid.nz).toNat y.1) (x.k : Int) _ (hM.below hs5.below) hun).mono ?_
   rintro e u5 ⟨rfl, hb_5⟩
   refine ⟨_, rfl, hb_5, ?_⟩
   clear hs5
   refine al_end (ah_back hok6 hcl6 (fun w9 hs => ((hs.fewer 2 rfl).front (.s (.s (.s (.s (.s (.z)))))))) ?_)
   refine ah_t 6 (fun w9 hs => ((hs.fewer 2 rfl).front (.s (.s (.s (.s (.s (.z)))))))) rfl rfl (by kernel_rfl) (q_move rfl) (ah_t 7 (fun w9 hs => ((hs.fewer 2 rfl).front (.s (.s (.s (.s (.s (.z)))))))) rfl rfl (by kernel_rfl) (q_extract rfl rfl) (ah_t 8 (fun w9 hs => ((hs.fewer 2 rfl).front (.s (.s (.s (.s (.s (.z)))))))) rfl rfl (by kernel_rfl) (q_extract rfl rfl) (ah_one 9 rfl (by kernel_rfl) (fun hok7 hcl7 => ?_))))
   refine al_p (q_assign rfl) (al_end (ah_back hok7 hcl7 (fun w9 hs => ((hs.fewer 2 rfl).front (.s (.s (.s (.s (.s (.z)))))))) ?_))
   refine ah_one 10 rfl (by kernel_rfl) (fun hok8 hcl8 => ?_)
   refine al_p (q_assign rfl) (al_end (ah_last (by kernel_rfl) ?_))
   refine aq_then (ac_region (al_p (q_move rfl) (al_p (q_move rfl) (al_new (fun b => .slice (some ⟨b, 0, none⟩) 1 1) (r_buildSlice (.cons rfl .nil) (sxa_bs_int_1_0_ _ rfl)) rfl rfl rfl ?_))))
   intro b6
   refine al_grow (z := 1) (bytes := 8) (zv := (.int .i64 0)) (o := y.2.1) (cs := y.2.2) (vs := [.int .i64 (exactL M (unitD M.coils.length M.shells.length (M.grid.nr * M.grid.nz).toNat y.1) (x.k : Int)).1]) rfl rfl (.s (.s (.s (.s (.s (.s (.z))))))) hgy (Sor.box (j := 0) rfl rfl rfl) Tryz.underlying30 (by kernel_rfl) rfl (by omega) (by decide) rfl rfl (fun o_2 g_2 => ?_)
   refine ⟨_, (.s (.s (.s (.s (.s (.s (.z))))))), ?_⟩
   refine al_p (q_assign rfl) (al_end (aq_inN (aq_then (ac_region ?_))))
   refine al_p (q_move rfl) ?_
   refine al_p (q_add rfl rfl (by omega)) (al_p (q_assign rfl) (al_end (aq_then ?_)))
   skip
   refine aq_round ((y.1 + 1, o_2, (y.2.2 ++ [.int .i64 (exactL M (unitD M.coils.length M.shells.length (M.grid.nr * M.grid.nz).toNat y.1) (x.k : Int)).1]))) (by simp only; omega) ⟨by simp only; omega, g_2, by simp only; rw [hcy, respRow_take M _ x.k y.1 (by omega), hrs, List.map_append]; rfl⟩ ⟨rfl, rfl, rfl, rfl, rfl, rfl, rfl, rfl, rfl, rfl, rfl, rfl, rfl, rfl, rfl, rfl, rfl, rfl, rfl, rfl, rfl, rfl, rfl, rfl, rfl, trivial⟩ (fun w9 hs => ((hs.fewer 3 rfl).tail 1 rfl))
  ·have hye : y.1 = (M.grid.nr * M.grid.nz).toNat := by have := of_decide_eq_false h2; omega
   refine ac_exit (aq_thenE (aq_thenE (aq_hit (aq_then ?_))))
   refine aq_swapT (.s (.s (.s (.s (.s (.z)))))) (.s (.s (.s (.s (.s (.z)))))) ?_
   refine aq_swapT (Tl.app (.s (.s (.s (.s (.s (.z))))))) (Tl.app (.s (.s (.s (.s (.s (.z))))))) ?_
   refine aq_swapT (.s (.s (.s (.s (.s (.z)))))) (.s (.s (.s (.s (.s (.z)))))) ?_
   refine ac_region ?_
   refine al_p (q_fieldAddr 1 rfl Tryz.runUnderlying89 rfl Tryz.sizeOf87 (by decide) rfl) (al_p (q_load (i := 1) rfl rfl rfl Tryz.isAgg87) (al_p (q_move rfl) (al_new (fun b => .slice (some ⟨b, 0, none⟩) 1 1) (r_buildSlice (.cons rfl .nil) (sxa_bs_LLint_1_0_ _ rfl)) rfl rfl rfl ?_)))
   intro b7
   refine al_grow (z := 1) (bytes := 24) (zv := (.slice none 0 0)) (o := x.p) (cs := x.ds) (vs := [.slice (gA y.2.1) y.1 (gC y.2.1)]) rfl rfl (.s (.s (.s (.s (.s (.s (.z))))))) hgp (Sor.box (j := 0) rfl rfl rfl) Tryz.underlying87 (by kernel_rfl) rfl (by omega) (by decide) rfl rfl (fun o_3 g_3 => ?_)
   refine ⟨_, (.s (.s (.s (.s (.s (.s (.z))))))), ?_⟩
   refine al_p (q_fieldAddr 1 rfl Tryz.runUnderlying89 rfl Tryz.sizeOf87 (by decide) rfl) (al_store1 (i := 2) rfl rfl rfl rfl Tryz.sizeOf87 .k1 .k2 rfl (al_end (aq_inN (aq_then ?_))))
   refine aq_swapT (.s (.s (.s (.s (.s (.s (.z))))))) (.s (.s (.s (.s (.s (.s (.z))))))) ?_
   refine ac_region (al_p (q_move rfl) ?_)
   refine al_p (q_add rfl rfl (by omega)) (al_p (q_assign rfl) (al_end (aq_then ?_)))
   skip
   refine aq_round (⟨x.k + 1, o_1, (x.cs ++ [.int .i64 (exactL M (darkD C) (x.k : Int)).1]), o_3, (x.ds ++ [.slice (gA y.2.1) y.1 (gC y.2.1)]), gt y.2.1 y.2.2 ++ x.G, x.rows ++ [(gA y.2.1, gC y.2.1)]⟩) (by simp only; omega) ⟨by simp only; omega, g_1, by simp only; rw [hcx, bgL_take (by omega), hbk, List.map_append]; rfl, g_3, by simp only; rw [hdx, List.flatMap_append]; simp [slcs, hye], by simp only; rw [List.length_append, hrl]; rfl, RowsG.snoc hri (by rw [← hye]; exact hye ▸ hgy) (by omega) (by rw [hcy, hye, hrl, List.take_of_length_le (by rw [respRow_length]; exact Nat.le_refl _)])⟩ ⟨rfl, rfl, rfl, rfl, rfl, trivial⟩ (fun w9 hs => ((hs.fewer 3 rfl).tail 2 rfl))
 ·have hxe : x.k = R.ld := by have := of_decide_eq_false h1; omega
  refine ac_exit (aq_thenE (aq_thenE (aq_hit (aq_then ?_))))
  refine ac_seq (ac_region ?_)
  refine al_p (q_loadAll (i := 0) rfl rfl Tryz.isAgg89 Tryz.sizeOf89 rfl) (al_storeAll (i := 1) rfl rfl rfl rfl Tryz.sizeOf89 rfl rfl .k1 rfl (al_end (aq_then ?_)))
  refine ac_ret (retR Tryz.results25 (.agg (i := 1) rfl rfl Tryz.isAgg89 Tryz.sizeOf89 rfl .nil) .one (fun w9 hs => ?_))
  refine ⟨gA x.o, gC x.o, gA x.p, gC x.p, x.rows, by rw [hxe], ⟨?_, ?_, fun i r hr => hs.rowG (G := x.G) (respRow_length M _) (fun y hy => by simp [hy]) hri i r hr⟩, hs.below⟩
  ·have h9 := hs.grown (enc := intCells) (o := x.o) (cs := x.cs) (zs := bgL M C) (fun _ => rfl) (fun y hy => by simp [hy]) hgo (by rw [flat_int, hcx, List.take_of_length_le (by rw [bgL_len]; omega)]) (by rw [bgL_len]; omega); rw [hxe] at h9; exact h9
  ·have h9 := hs.grown (enc := slcs (M.grid.nr * M.grid.nz).toNat) (o := x.p) (cs := x.ds) (zs := x.rows) (fun _ => rfl) (fun y hy => by simp [hy]) hgp hdx.symm hrl; rw [hxe] at h9; exact h9
end
section
set_option autoImplicit false
open Go.RowKit
theorem Sta.lend2 (n : Nat) (D : List Deferred) (w : World) {b c : Nat} {cs ds : Cont} (hbc : b ≠ c) (h : BoxAt w b cs) (h' : BoxAt w c ds) : Sta ⟨n, D, w, [b, c]⟩ [] [(b, cs), (c, ds)] w := by
 refine ⟨Chg.refl _ _, fun i x e hi => ?_, fun i j x e e' hi hj => ?_, fun lo u hu => (by cases hu)⟩
 ·rcases i with _ | _ | i
  ·simp at hi; obtain ⟨rfl, rfl⟩ := hi; exact ⟨Or.inr (by simp), h⟩
  ·simp at hi; obtain ⟨rfl, rfl⟩ := hi; exact ⟨Or.inr (by simp), h'⟩
  ·simp at hi
 ·rcases i with _ | _ | i <;> rcases j with _ | _ | j <;> simp at hi hj
  ·rfl
  ·omega
  ·omega
  ·rfl
theorem Sta.change2 {E : Cfg} {U : Snaps} {L : Boxes} {w w' : World} {i j b c : Nat} {cs ds cs' ds' : Cont} (h : Sta E U L w) (hi : L[i]? = some (b, cs)) (hj : L[j]? = some (c, ds)) (hij : i ≠ j) (hc : Chg [b, c] w w') (h1 : BoxAt w' b cs') (h2 : BoxAt w' c ds') : Sta E U ((L.set i (b, cs')).set j (c, ds')) w' := by
 have hz := h.chg.size
 have li := (List.getElem?_eq_some_iff.1 hi).1
 have lj := (List.getElem?_eq_some_iff.1 hj).1
 obtain ⟨g1, g2⟩ := h.box i b cs hi
 obtain ⟨k1, k2⟩ := h.box j c ds hj
 have hbc : b ≠ c := fun e => hij (h.apart i j b cs ds hi (e ▸ hj))
 have hget : ∀ m x e, ((L.set i (b, cs')).set j (c, ds'))[m]? = some (x, e) → (m = i ∧ x = b ∧ e = cs') ∨ (m = j ∧ x = c ∧ e = ds') ∨ (m ≠ i ∧ m ≠ j ∧ L[m]? = some (x, e)) := fun m x e hm => by
  by_cases e1 : j = m
  ·subst e1
   rw [List.getElem?_set_self (by simpa using lj)] at hm
   cases hm; exact Or.inr (Or.inl ⟨rfl, rfl, rfl⟩)
  ·rw [List.getElem?_set_ne e1] at hm
   by_cases e2 : i = m
   ·subst e2
    rw [List.getElem?_set_self li] at hm
    cases hm; exact Or.inl ⟨rfl, rfl, rfl⟩
   ·rw [List.getElem?_set_ne e2] at hm
    exact Or.inr (Or.inr ⟨fun e => e2 e.symm, fun e => e1 e.symm, hm⟩)
 have hold : ∀ m x e, ((L.set i (b, cs')).set j (c, ds'))[m]? = some (x, e) → ∃ e2, L[m]? = some (x, e2) := fun m x e hm => by
  rcases hget m x e hm with ⟨rfl, rfl, -⟩ | ⟨rfl, rfl, -⟩ | ⟨-, -, h3⟩
  ·exact ⟨_, hi⟩
  ·exact ⟨_, hj⟩
  ·exact ⟨_, h3⟩
 have hne : ∀ m x e, m ≠ i → m ≠ j → L[m]? = some (x, e) → x ≠ b ∧ x ≠ c := fun m x e m1 m2 hm => ⟨fun e9 => m1 (h.apart m i x e cs hm (e9 ▸ hi)), fun e9 => m2 (h.apart m j x e ds hm (e9 ▸ hj))⟩
 refine ⟨⟨hc.os.trans h.chg.os, hc.tape.trans h.chg.tape, hc.output.trans h.chg.output, Nat.le_trans h.chg.size hc.size, fun k hk hl => ?_⟩, fun m x e hm => ?_, fun m m2 x e e' hm hm2 => ?_, fun lo u hu => ?_⟩
 ·refine (hc.block k (Nat.lt_of_lt_of_le hk h.chg.size) (fun hm => ?_)).trans (h.chg.block k hk hl)
  rcases List.mem_cons.1 hm with e | e
  ·subst e; rcases g1 with g | g
   ·omega
   ·exact hl g
  ·obtain rfl := List.mem_singleton.1 e
   rcases k1 with g | g
   ·omega
   ·exact hl g
 ·rcases hget m x e hm with ⟨rfl, rfl, rfl⟩ | ⟨rfl, rfl, rfl⟩ | ⟨m1, m2, h3⟩
  ·exact ⟨g1, h1⟩
  ·exact ⟨k1, h2⟩
  ·obtain ⟨q1, q2⟩ := h.box m x e h3
   obtain ⟨n1, n2⟩ := hne m x e m1 m2 h3
   exact ⟨q1, q2.same (hc.block x q2.lt (by simp [n1, n2])) hc.size⟩
 ·obtain ⟨f1, z1⟩ := hold m x e hm
  obtain ⟨f2, z2⟩ := hold m2 x e' hm2
  exact h.apart m m2 x f1 f2 z1 z2
 ·obtain ⟨s0, s1, s2, s3, s4, s5⟩ := h.snap lo u hu
  refine ⟨s0, s1, Nat.le_trans s2 hc.size, fun k l1 l2 => (hc.block k (Nat.lt_of_lt_of_le l2 s2) (fun hm => ?_)).trans (s3 k l1 l2), s4, fun m x e hm => ?_⟩
  ·rcases List.mem_cons.1 hm with e | e
   ·subst e; rcases s5 i _ cs hi with g | g <;> omega
   ·obtain rfl := List.mem_singleton.1 e
    rcases s5 j _ ds hj with g | g <;> omega
  ·obtain ⟨f1, z1⟩ := hold m x e hm
   exact s5 m x f1 z1
theorem ac_range2 {P : Program} {e0 : Cfg} {U : Snaps} {l : Slots} {L : Boxes} {Q : Exit → Act → World → Prop} {α β : Type} {g : Operand} {p : Tmp} {assign body : Code} {gf : Nat} {lb : Array Value} {enc : α → Value} {Gd : Nat → α → Prop} {N b c : Nat} (i j : Nat) (Fk : Nat → β → Prop) (K : β → World → Prop) (c1 c2 : β → Cont) (S : Nat → α → Slots) (Lk : β → Boxes) (y0 : β)
  (hg : E l g = some (.func (.func gf) #[] lb)) (eg : ∀ args w, (callFunc gf args).run P w = .ok (.enter gf args) w) (hp : Nat.blt p e0.n = true) (hij : i ≠ j) (hi : ∀ y, (Lk y)[i]? = some (b, c1 y)) (hj : ∀ y, (Lk y)[j]? = some (c, c2 y)) (hL : ∀ y y', Lk y' = ((Lk y).set i (b, c1 y')).set j (c, c2 y')) (hL0 : Lk y0 = L)
  (hF0 : Fk 0 y0) (hK0 : ∀ v, Sta e0 U L v → K y0 v) (hKm : ∀ v y W W', Sta e0 U L v → K y W → Mv v.heap.size [] W W' → K y W')
  (hseq : ∀ v, Sta e0 U L v → IterAll P gf lb enc (fun _ k x _ => Gd k x) [b, c] 0 N v)
  (hassign : ∀ k x lf W (Q' : Exit → Act → World → Prop), k < N → Gd k x → ¬ LetsOut Q' → AQ ⟨e0.n, [], W, []⟩ [] (S k x) [] (Q' .normal) → CI (Fence.wide.inRound lf) P ⟨e0.n, [], W, []⟩ [] ((p, enc x) :: l) [] assign Q')
  (hbody : ∀ k x y lf W (Q' : Exit → Act → World → Prop), k < N → Gd k x → Fk k y → ¬ LetsOut Q' → (∀ c a w, ¬ Q' (.panic c) a w) → Sta e0 U (Lk y) W → K y W → (∀ U9 y', Fk (k + 1) y' → (∀ w9, Sta ⟨e0.n, [], W, [b, c]⟩ U9 [(b, c1 y'), (c, c2 y')] w9 → K y' w9) → AQ ⟨e0.n, [], W, [b, c]⟩ U9 [] [(b, c1 y'), (c, c2 y')] (Q' .normal)) → CI (Fence.wide.inRound lf) P ⟨e0.n, [], W, [b, c]⟩ [] (S k x) [(b, c1 y), (c, c2 y)] body Q')
  (hend : ∀ D u y a, Fk N y → K y u → Sta e0 U (Lk y) u → (∀ lo' u', (lo', u') ∈ U → u'.heap.size ≤ D) → D < u.heap.size → u.heap[D]? = some (.deferred (some [])) → Fr (e0.withD (markD D :: e0.D)) l a → Q .normal a u) :
  AC P e0 U l L (.rangeFunc g #[p] assign body) Q := by
 intro a v hf hs
 refine (wpIn_wide (n := 0)).1 ?_
 have hs0 : Sta e0 U (Lk y0) v := by rw [hL0]; exact hs
 have hv := hs.chg.size
 have hU : ∀ lo u, (lo, u) ∈ U → u.heap.size ≤ v.heap.size := fun lo u hu => (hs.snap lo u hu).2.2.1
 have hlow : ∀ y (m b' : Nat) (e : Cont), (Lk y)[m]? = some (b', e) → b' < v.heap.size := fun y m b' e h => by
  rw [hL y0 y] at h
  have h3 : ∃ e2, (Lk y0)[m]? = some (b', e2) := by
   by_cases e1 : j = m
   ·subst e1
    rw [List.getElem?_set_self (by simpa using (List.getElem?_eq_some_iff.1 (hj y0)).1)] at h
    cases h; exact ⟨_, hj y0⟩
   ·rw [List.getElem?_set_ne e1] at h
    exact set_box (hi y0) h
  obtain ⟨e2, h2⟩ := h3
  exact (hs0.box m b' e2 h2).2.lt
 have hbv := hlow y0 i b _ (hi y0)
 have hcv := hlow y0 j c _ (hj y0)
 have hbc : b ≠ c := fun e => hij (hs0.apart i j b _ _ (hi y0) (e ▸ hj y0))
 have hmv : ∀ y W1 W2, Sta e0 U (Lk y) W1 → Mv v.heap.size [] W1 W2 → Sta e0 U (Lk y) W2 := fun y W1 W2 h hm => h.mv hm hv hU (fun z hz => by cases hz) (fun m b' e hm' => ⟨by simp, Or.inl (hlow y m b' e hm')⟩)
 refine wpIn_range_all (X := [b, c]) (zl := 0) (N := N) (Good := fun _ k x _ => Gd k x) (enc := enc) (hf.ev hg) eg (hseq v hs) (fun Z k W => Z = [] ∧ v.heap.size ≤ W.heap.size ∧ ∃ y, Fk k y ∧ Sta e0 U (Lk y) W ∧ K y W) ?_ ?_ ?_ ?_ ?_
 ·rintro Z k W1 W2 ⟨rfl, h1, y, q1, q2, q3⟩ hm
  exact ⟨rfl, Nat.le_trans h1 hm.size, y, q1, hmv y _ _ q2 hm, hKm v y _ _ hs q3 hm⟩
 ·intro Z hZ _
  exact ⟨List.length_eq_zero_iff.1 hZ, Nat.le_refl _, y0, hF0, hs0, hK0 v hs⟩
 ·rintro lf Z k x W hl sW ⟨rfl, h1, y, q1, hS, q3⟩ hgd hk
  have hfp : Fr ⟨e0.n, [], W, []⟩ ((p, enc x) :: l) { tmps := a.tmps.setIfInBounds p (enc x), defers := [] } := by
   have := hf.put hp (enc x)
   exact ⟨this.size, rfl, this.slot⟩
  refine ci_go hfp (Sta.start _ _ _) (hassign k x lf W _ hk hgd (by rintro ⟨_, _, h⟩; exact h) ?_)
  intro a1 W1 hf1 hs1
  refine ⟨Chg.of_below _ hs1.below, fun W2 hm2 => ?_⟩
  have hmm := (Mv.of_chg (n0 := v.heap.size) (Chg.of_below [] hs1.below)).trans hm2
  have hS2 := hmv y _ _ hS hmm
  have hK2 := hKm v y _ _ hs q3 hmm
  refine ci_go (hf1.rebase (w1 := W2) (bs' := [b, c])) (Sta.lend2 _ _ _ hbc (hS2.box i b _ (hi y)).2 (hS2.box j c _ (hj y)).2) (hbody k x y lf W2 _ hk hgd q1 ?_ ?_ hS2 hK2 ?_)
  ·rintro ⟨_, _, h, -⟩; cases h
  ·rintro _ _ _ ⟨h, -⟩; cases h
  ·intro U9 y' hF' hK' a3 W3 hf3 hs3
   have hc := hS2.change2 (hi y) (hj y) hij hs3.chg (hs3.box 0 b _ rfl).2 (hs3.box 1 c _ rfl).2
   rw [← hL y y'] at hc
   have s1 := hm2.size
   have s2 := hs1.chg.size
   have s3 := hs3.chg.size
   simp only at s2 s3
   exact ⟨rfl, ⟨rfl, by omega, y', hF', hc, hK' W3 hs3⟩, hs3.chg⟩
 ·intro x hx
  rcases List.mem_cons.1 hx with rfl | hx
  ·exact hbv
  ·rw [List.mem_singleton.1 hx]; exact hcv
 ·rintro D Z Wd hD ⟨-, h1, y, q1, hS, q3⟩ hDd
  exact hend D Wd y _ q1 q3 hS (fun lo u hu => Nat.le_trans (hU lo u hu) hD) (Array.getElem?_eq_some_iff.1 hDd).1 hDd ⟨hf.size, by rw [hf.defers], hf.slot⟩
theorem ac_loopD {P : Program} {Q : Exit → Act → World → Prop} {e0 : Cfg} {U : Snaps} {l : Slots} {L : Boxes} {β : Type} {c : Code} (Fc : β → Prop) (D : β → List Deferred) (S : β → Slots) (V : β → Snaps) (M : β → Boxes) (μ : β → Nat) (x0 : β) (h0 : Fc x0) (hD : e0.D = D x0) (hl : AllLook l (S x0)) (hL : ∀ w, Sta e0 U L w → Sta e0 (V x0) (M x0) w)
  (round : ∀ x, Fc x → AC P (e0.withD (D x)) (V x) (S x) (M x) c (Exit.then (fun a w => ∃ y, μ y < μ x ∧ Fc y ∧ Fr (e0.withD (D y)) (S y) a ∧ Sta (e0.withD (D y)) (V y) (M y) w) Q)) : AC P e0 U l L (.loop c) Q :=
 fun a w hf hs => wp_loop_x (fun x a w => Fc x ∧ Fr (e0.withD (D x)) (S x) a ∧ Sta (e0.withD (D x)) (V x) (M x) w) μ x0 ⟨h0, ⟨hf.size, hf.defers.trans hD, (hf.sub hl.sub).slot⟩, (hL w hs).withD _⟩ (fun x a w ⟨hF, hf, hs⟩ => round x hF a w hf hs)
theorem retMS {P : Program} {U : Snaps} {l : Slots} {L : Boxes} {n m : Nat} {w0 : World} {bs Ds : List Nat} {fn : Func} {R : Ending → World → Prop} {rs : List ResultVar} {vs : List Value} {v : Value} (hr : fn.results = rs.toArray) (h : RT P l L rs vs) (hv : Fin1 vs v) (hlo : ∀ D ∈ Ds, w0.heap.size ≤ D) (hcs : L.all (fun p => match p.2 with | .cells (_ :: _) => true | _ => false) = true) (hD : ∀ w, Sta ⟨n, Ds.map markD, w0, bs⟩ U L w → Marks w m Ds)
  (hR : ∀ w w', Sta ⟨n, Ds.map markD, w0, bs⟩ U L w → Mv w0.heap.size [] w w' → Chg Ds w w' → R (.returned v) w') : AQ ⟨n, Ds.map markD, w0, bs⟩ U l L (postM P fn R .ret) := fun a w hf hs => by
 show LeavesInM _ _ _ _ _ _ a.defers _ _
 rw [hf.defers]
 refine leaves_marks Ds m w (hD w hs) hlo (fun w' hm hc => ?_) (fun w' hm hc => hR w w' hs hm hc)
 rw [← hv.eq]
 have hs' := (show Sta _ [] L w from hs.fewer U.length (by simp)).mv (n0 := w0.heap.size) hm (Nat.le_refl _) (fun lo u hu => by cases hu) (fun z hz => by cases hz) (fun i b c hi => ⟨by simp, Or.inr ?_⟩)
 ·exact results_eq fn a.tmps rs hr vs w' (h.run hf hs')
 ·have h1 := List.all_eq_true.1 hcs (b, c) (List.mem_of_getElem? hi)
  cases c with
  | cells cs =>
   cases cs with
   | nil => cases h1
   | cons x cs => exact cells_of_cell ((hs.box i b _ hi).2.cell _ rfl 0 x rfl).1
  | map es k => cases h1
theorem Sta.snapEmpty {E : Cfg} {U : Snaps} {L : Boxes} {w u : World} {lo : Nat} (h : Sta E U L w) (hu : (lo, u) ∈ U) : Sta E ((u.heap.size, u) :: U) L w := by
 obtain ⟨s0, s1, s2, s3, s4, s5⟩ := h.snap lo u hu
 refine ⟨h.chg, h.box, h.apart, fun lo' u' hu' => ?_⟩
 cases hu' with
 | head => exact ⟨Nat.le_trans s0 s1, Nat.le_refl _, s2, fun k h1 h2 => by omega, s4, fun i b c hi => by omega⟩
 | tail _ h9 => exact h.snap lo' u' h9
theorem Marks.snap {E : Cfg} {U : Snaps} {L : Boxes} {w u : World} {lo : Nat} {Ds : List Nat} (h : Sta E U L w) (hu : (lo, u) ∈ U) (hM : Marks u u.heap.size Ds) (hlo : ∀ D ∈ Ds, lo ≤ D) : Marks w u.heap.size Ds := by
 obtain ⟨-, -, s2, s3, -, -⟩ := h.snap lo u hu
 have key : ∀ (m : Nat) (Ds : List Nat), Marks u m Ds → m ≤ u.heap.size → (∀ D ∈ Ds, lo ≤ D) → Marks w m Ds := by
  intro m Ds hM
  induction hM with
  | nil => intro _ _; exact .nil
  | cons hD h1 h2 ih =>
   intro hm hl
   exact .cons ((s3 _ (hl _ (by simp)) (by omega)).trans hD) h1 (ih (by omega) fun d hd => hl d (by simp [hd]))
 exact key _ _ hM (Nat.le_refl _) hlo
theorem below_marks {Ds : List Nat} {w w9 w8 : World} (h : Below w.heap.size w w9) (hc : Chg Ds w9 w8) (hD : ∀ D ∈ Ds, w.heap.size ≤ D) : Below w.heap.size w w8 :=
 ⟨hc.os.trans h.os, hc.tape.trans h.tape, hc.output.trans h.output, Nat.le_trans h.size hc.size, fun k hk => (hc.block k (Nat.lt_of_lt_of_le hk h.size) (fun e => by have := hD k e; omega)).trans (h.block k hk)⟩
end
section
set_option autoImplicit false
open Go.RowKit
theorem noDefer_at {ops : Array Oper} (h : noDefer ops.toList = true) {i : Nat} {o : Oper} (hi : ops[i]? = some o) : ∀ c, o.op ≠ .defer c := by
 have hm : o ∈ ops.toList := by
  rw [← Array.getElem?_toList] at hi
  exact List.mem_of_getElem? hi
 have := List.all_eq_true.1 h o hm
 intro c hc
 rw [hc] at this
 exact absurd this (by simp)
theorem opIn_of {F : Fence} (hF : Wide F) {P : Program} {ops : Array Oper} {Q : Exit → Act → World → Prop} (hQ : ¬ LetsOut Q) (hd : noDefer ops.toList = true) {i : Nat} {K K' : Act → World → Prop} {a : Act} {w : World} (hK : ∀ a w, K a w → K' a w) (h : wpOp P ops Q i K a w) : wpOpIn F 0 P ops Q i K' a w := by
 unfold wpOp at h
 unfold wpOpIn
 cases ho : ops[i]? with
 | none => simp only [ho] at h ⊢; exact hK _ _ h
 | some o =>
  simp only [ho] at h ⊢
  have hd1 := noDefer_at hd ho
  split at h
  ·rename_i hw
   rw [if_pos hw]
   rcases h with h | h
   ·refine ⟨fun f _ => hF.fn f, ?_⟩
    rw [hF.sem _ _ hd1]
    unfold Oper.wp at h
    revert h
    generalize (execOp a.eval o).run P w = r
    intro h
    cases r with
    | ok x w' =>
     cases x <;> simp only [Oper.upon, Oper.uponIn] at h ⊢ <;>
      first
       | exact h.elim
       | exact hK _ _ h
       | exact ⟨fun e => (by rw [hF.depth] at e; cases e), hF.calls (h.mono fun e w'' he => by cases e <;> first | exact hK _ _ he | exact he)⟩
       | exact ⟨fun e => (by rw [hF.depth] at e; cases e), hF.rows (h.mono fun _ _ he => hK _ _ he)⟩
    | halt x w' => cases x <;> simp only [Oper.upon, Oper.uponIn] at h ⊢ <;> first | exact h.elim | exact h
   ·exact absurd h.2 hQ
  ·rename_i hw
   rw [if_neg hw]
   exact ⟨fun f _ => hF.fn f, hK _ _ h⟩
theorem anyIn_of {F : Fence} (hF : Wide F) {P : Program} {md : Region.Mode} {ops : Array Oper} {Q : Exit → Act → World → Prop} (hQ : ¬ LetsOut Q) (hd : noDefer ops.toList = true) : ∀ (fuel : Nat) (listed : Array Bool) (a : Act) (w : World), wpAny P md ops Q fuel listed a w → wpAnyIn F 0 P md ops Q fuel listed a w
 | 0, _, _, _, h => h
 | fuel + 1, listed, a, w, h => ⟨h.1, fun i hi => opIn_of hF hQ hd (fun a' w' h' => anyIn_of hF hQ hd fuel _ a' w' h') (h.2 i hi)⟩
theorem ci_draw {F : Fence} {P : Program} {e0 : Cfg} {U : Snaps} {l : Slots} {L : Boxes} {Q : Exit → Act → World → Prop} {id : Nat} {os : List Oper} (last : Nat) (hF : Wide F) (hQ : ¬ LetsOut Q) (hd : noDefer os = true) (hm : P.follows .mixedOrders = true) (hok : lastOk os.toArray last = true) (k : AH P os.toArray Q U L last os.toArray.size (Array.replicate os.toArray.size false) e0 U l L) : CI F P e0 U l L (.region id os.toArray true) Q :=
 fun a w hf hs => wpIn_region_any hm (anyIn_of hF hQ hd _ _ _ _ (wpAny_of_G _ _ _ _ (k hok (DrawnTo.start _ _) a _ hf hs.drew)))
theorem ac_cutU {P : Program} {e0 : Cfg} {U : Snaps} {l : Slots} {L : Boxes} {Q : Exit → Act → World → Prop} {β : Type} {c1 c2 : Code} (F : β → Prop) (S : β → Slots) (M : β → Boxes → Boxes)
  (h1 : ∀ X : Act → World → Prop, (∀ y, F y → AQ e0 U (S y) (M y L) X) → AC P e0 U l L c1 (Exit.then X Q)) (h2 : ∀ y, F y → AC P e0 U (S y) (M y L) c2 Q) : AC P e0 U l L (.seq c1 c2) Q := ac_cut F S (fun _ => U) M h1 h2
end
end Go.Proofs.YthggkidiidnaoaaGreatDoor
