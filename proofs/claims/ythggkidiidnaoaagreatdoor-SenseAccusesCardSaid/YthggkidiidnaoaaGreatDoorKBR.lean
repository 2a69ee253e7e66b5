import Derived.Test.YthggkidiidnaoaaGreatDoorKAP
import Derived.Test.YthggkidiidnaoaaGreatDoorKAQ
import Derived.Test.YthggkidiidnaoaaGreatDoorKBM
import Derived.Test.YthggkidiidnaoaaGreatDoorKBO
import Derived.Test.YthggkidiidnaoaaGreatDoorRows
import Derived.KernelRfl
import Derived.Laws.StructEq
namespace Go.Proofs.YthggkidiidnaoaaGreatDoor
set_option linter.unusedVariables false
set_option linter.unusedSimpArgs false
section
open Go.RowKit
theorem mul_bd4 {a b A B : Int} (a0 : -A ≤ a) (a1 : a ≤ A) (b0 : -B ≤ b) (b1 : b ≤ B) : -(A * B) ≤ a * b ∧ a * b ≤ A * B := by
 have hA : 0 ≤ A := by omega
 have hB : 0 ≤ B := by omega
 have h1 : (A - a) * (B + b) ≥ 0 := Int.mul_nonneg (by omega) (by omega)
 have h2 : (A + a) * (B - b) ≥ 0 := Int.mul_nonneg (by omega) (by omega)
 have h3 : (A - a) * (B - b) ≥ 0 := Int.mul_nonneg (by omega) (by omega)
 have h4 : (A + a) * (B + b) ≥ 0 := Int.mul_nonneg (by omega) (by omega)
 simp only [Int.sub_mul, Int.mul_sub, Int.add_mul, Int.mul_add] at h1 h2 h3 h4
 omega
structure IsTab (M : MachD) (C : CurD) (N n : Nat) (w : World) (A1 A2 : Option Addr) (rows : List (Option Addr × Nat)) : Prop where
 bg : IsT 1 intCells w A1 n (bgL M C)
 out : IsT 1 (slcs N) w A2 n rows
 row : ∀ (i : Nat) r, rows[i]? = some r → IsT 1 intCells w r.1 N (respRow M N i)
theorem Sta.tab {E : Cfg} {U : Snaps} {L : Boxes} {w u : World} {lo N n : Nat} {M : MachD} {C : CurD} {A1 A2 : Option Addr} {c1 c2 : Nat} {rows : List (Option Addr × Nat)} (h : Sta E U L w) (hu : (lo, u) ∈ U) (hN : NewTab M C N n lo u A1 A2 c1 c2 rows) : IsTab M C N n w A1 A2 rows :=
 ⟨h.newT hu hN.bg, h.newT hu hN.out, fun i r hr => h.newT hu (hN.row i r hr)⟩
theorem allow_agree {lo hi b n cur : Int} (hv : vld lo hi = true) (c0 : 0 ≤ cur) (c1 : cur ≤ 1000000) : cont (allowL lo hi b n).1 (allowL lo hi b n).2 cur = wthn (b + cur * n) lo hi := by
 rw [Bool.eq_iff_iff, wthn_iff]
 have key : cont (allowL lo hi b n).1 (allowL lo hi b n).2 cur = true ↔ (allowL lo hi b n).1 ≤ cur ∧ cur ≤ (allowL lo hi b n).2 := by
  have ho := okAl_vld lo hi b n
  unfold cont
  rw [Bool.and_eq_true, Bool.and_eq_true, decide_eq_true_iff, decide_eq_true_iff, ← ho, okAl, decide_eq_true_iff]
  exact ⟨fun h => h.2, fun h => ⟨Int.le_trans h.1 h.2, h⟩⟩
 rw [key]
 rcases Int.lt_trichotomy n 0 with hn | hn | hn
 ·have f1 := flo_iff cur (lo - b) n (by omega)
  have f2 := flo_iff (-cur) (-(hi - b)) n (by omega)
  rw [Int.neg_mul] at f2
  unfold allowL possL
  rw [if_neg (by omega), if_pos hn]
  simp only [cei]
  constructor
  ·intro h
   have g1 := f1.1 (by omega)
   have g2 := f2.1 (by omega)
   omega
  ·intro h
   have g1 := f1.2 (Or.inr ⟨hn, by omega⟩)
   have g2 := f2.2 (Or.inr ⟨hn, by omega⟩)
   omega
 ·subst hn
  rw [allow_zero hv, Int.mul_zero, Int.add_zero]
  cases hw : wthn b lo hi
  ·rw [if_neg (by decide)]
   constructor
   ·intro h; simp only at h; omega
   ·intro h; rw [wthn_iff.2 h] at hw; cases hw
  ·rw [if_pos rfl]
   exact ⟨fun _ => wthn_iff.1 hw, fun _ => ⟨c0, c1⟩⟩
 ·have f1 := flo_iff cur (hi - b) n (by omega)
  have f2 := flo_iff (-cur) (-(lo - b)) n (by omega)
  rw [Int.neg_mul] at f2
  unfold allowL possL
  rw [if_pos hn]
  simp only [cei]
  constructor
  ·intro h
   have g1 := f1.1 (by omega)
   have g2 := f2.1 (by omega)
   omega
  ·intro h
   have g1 := f1.2 (Or.inl ⟨hn, by omega⟩)
   have g2 := f2.2 (Or.inl ⟨hn, by omega⟩)
   omega
theorem clF_eq {M : MachD} {C : CurD} {zs : List SpanD} {cell : Int} {k : Nat} (h : k < M.sensors.length) : clF M (bgL M C) zs cell k = ⟨(allowL (zs.getD k ⟨0, 0⟩).lo (zs.getD k ⟨0, 0⟩).hi (backL M C (k : Int)).1 (respL M (k : Int) cell).1).1, (allowL (zs.getD k ⟨0, 0⟩).lo (zs.getD k ⟨0, 0⟩).hi (backL M C (k : Int)).1 (respL M (k : Int) cell).1).2⟩ := by
 unfold clF
 rw [List.getD_eq_getElem?_getD (l := bgL M C), bgL_get h]
 rfl
def agU (L : List SpanD) (cur : Int) (k : Nat) : List Int := (List.range k).filterMap (agF L cur)
theorem agU_step {M : MachD} {C : CurD} {zs : List SpanD} {cell cur : Int} {k : Nat} (h : k < M.sensors.length) (hv : vld (zs.getD k ⟨0, 0⟩).lo (zs.getD k ⟨0, 0⟩).hi = true) (c0 : 0 ≤ cur) (c1 : cur ≤ 1000000) : agU (clL M (bgL M C) zs cell) cur (k + 1) = if wthn ((backL M C (k : Int)).1 + cur * (respL M (k : Int) cell).1) (zs.getD k ⟨0, 0⟩).lo (zs.getD k ⟨0, 0⟩).hi = true then agU (clL M (bgL M C) zs cell) cur k ++ [(k : Int)] else agU (clL M (bgL M C) zs cell) cur k := by
 unfold agU
 rw [filter_snoc]
 have e : agF (clL M (bgL M C) zs cell) cur k = if wthn ((backL M C (k : Int)).1 + cur * (respL M (k : Int) cell).1) (zs.getD k ⟨0, 0⟩).lo (zs.getD k ⟨0, 0⟩).hi = true then some (k : Int) else none := by
  unfold agF
  rw [List.getD_eq_getElem?_getD (l := clL M (bgL M C) zs cell), clL_get h, Option.getD_some, clF_eq h, ← allow_agree hv c0 c1]
 rw [e]
 by_cases hw : wthn ((backL M C (k : Int)).1 + cur * (respL M (k : Int) cell).1) (zs.getD k ⟨0, 0⟩).lo (zs.getD k ⟨0, 0⟩).hi = true
 ·rw [if_pos hw, if_pos hw]
 ·rw [if_neg hw, if_neg hw]; simp
theorem agU_len (L : List SpanD) (cur : Int) (k : Nat) : (agU L cur k).length ≤ k := agUp_len (agF L cur) k
def goInv (CL : List SpanD) (j : Nat) (lo hi : Int) (ok : Bool) : Prop := commL CL = if ok = true then commGo lo hi (CL.drop j) else (0, 0, false)
theorem goInv.zero (CL : List SpanD) : goInv CL 0 0 1000000 true := rfl
theorem goInv.no {CL : List SpanD} {j j' : Nat} {lo hi lo' hi' : Int} (h : goInv CL j lo hi false) : goInv CL j' lo' hi' false := h
theorem goInv.step {CL : List SpanD} {j : Nat} {lo hi : Int} {x : SpanD} (h : goInv CL j lo hi true) (hx : CL[j]? = some x) (he : (meetL lo hi x.lo x.hi).2.2 = 0) : goInv CL (j + 1) (meetL lo hi x.lo x.hi).1 (meetL lo hi x.lo x.hi).2.1 (decide ((meetL lo hi x.lo x.hi).2.2 = 0)) := by
 unfold goInv at h ⊢
 rw [if_pos rfl, commGo_drop hx, if_pos he] at h
 rw [he]; exact h
theorem goInv.stop {CL : List SpanD} {j j' : Nat} {lo hi lo' hi' : Int} {x : SpanD} (h : goInv CL j lo hi true) (hx : CL[j]? = some x) (he : ¬ (meetL lo hi x.lo x.hi).2.2 = 0) : goInv CL j' lo' hi' (decide ((meetL lo hi x.lo x.hi).2.2 = 0)) := by
 unfold goInv at h ⊢
 rw [if_pos rfl, commGo_drop hx, if_neg he] at h
 rw [decide_eq_false he]; exact h
theorem goInv.end {CL : List SpanD} {j : Nat} {lo hi : Int} {ok : Bool} (h : goInv CL j lo hi ok) (hj : CL.length ≤ j) : (commL CL).2.2 = ok ∧ (ok = true → (commL CL).1 = lo ∧ (commL CL).2.1 = hi) := by
 unfold goInv at h
 rw [List.drop_eq_nil_of_le hj] at h
 cases ok
 ·rw [h]; exact ⟨rfl, fun e => by cases e⟩
 ·rw [h]; exact ⟨rfl, fun _ => ⟨rfl, rfl⟩⟩
theorem sxd_bs_int_1_0_ (a0 : Value) (ha0 : a0.oneCell' = true) : ∀ w, (Instr.buildSlice 30 1 #[(0, a0)]).run Tryz.prog w = .ok (.slice (some ⟨w.heap.size, 0, none⟩) 1 1) (w.alloc (.cells [a0].toArray 3)) := by
 have ea0 : a0.cells = #[a0] := cells_one ha0
 intro w; (simp [Instr.buildSlice, Instr.fill, cells_agg, newRow, Tryz.runUnderlying30, Tryz.zeroValue3, Tryz.sizeOf3, ea0] <;> (rw [(by kernel_rfl : Array.range 1 = #[0])]; simp [Value.cells]))
set_option maxRecDepth 100000 in
theorem ragree4_any (R : MachR) (M : MachD) (C : CurD) (A_t B_t F : Option Addr) (c_t d_t nf cf : Nat) (rw_t : List (Option Addr × Nat)) (zs : List SpanD) (cell cur : Int) (w : World) (hM : IsM w R M) (hF : IsT 2 SpanD.cells w F nf zs) (N_t : IsTab M C (M.grid.nr * M.grid.nz).toNat R.ld w A_t B_t rw_t) (hck : checkC M = 0) (hzl : zs.length = M.sensors.length) (hzs : ∀ s ∈ zs, vld s.lo s.hi = true) (h0 : 0 ≤ cell) (h1 : cell < M.grid.nr * M.grid.nz) (c0 : 0 ≤ cur) (c1 : cur ≤ 1000000) : Calls Tryz.prog 28 #[(.agg #[.slice A_t R.ld c_t, .slice B_t R.ld d_t]), (.slice F nf cf), (.int .i64 cell), (.int .i64 cur)] w (fun e w' => ∃ A n c, e = .returned (.slice A n c) ∧ NewT 1 intCells w.heap.size w' A n c (agL (clL M (bgL M C) zs cell) cur) ∧ Below w.heap.size w w') := by
 have hs0 := sound_of hck
 have hg := cells_fine hs0.grid
 have hsn := hs0.sensors.1
 have hld := hM.sensors.1
 have hnz := hF.1
 refine calls_ax (vs := [(.agg #[.slice A_t R.ld c_t, .slice B_t R.ld d_t]), (.slice F nf cf), (.int .i64 cell), (.int .i64 cur)]) Tryz.func28 rfl rfl ?_
 refine ac_seq (ac_region ?_)
 refine al_new (fun b => .pointer (some ⟨b, 0, none⟩)) (r_box rfl rfl) rfl rfl rfl ?_
 intro b1
 refine al_p (q_assign rfl) (al_end (aq_then ?_))
 refine ac_seq (ac_region ?_)
 refine al_p (q_assign rfl) (al_end (aq_then ?_))
 refine ac_seq (ac_seq (ac_region ?_))
 refine al_p (q_assign rfl) (al_end (aq_then ?_))
 refine ac_block ?_
 refine ac_loop (β := Nat × Gr × List Value) (fun k => k.1 ≤ nf ∧ gok k.2.1 (agU (clL M (bgL M C) zs cell) cur k.1).length 1 k.2.2 ∧ k.2.2 = (agU (clL M (bgL M C) zs cell) cur k.1).map (Value.int .i64)) (fun k => [(1, (.slice F nf cf)), (2, (.int .i64 cell)), (3, (.int .i64 cur)), (4, (.pointer (some ⟨b1, 0, none⟩))), (8, (.slice none 0 0)), (9, (.slice (gA k.2.1) (agU (clL M (bgL M C) zs cell) cur k.1).length (gC k.2.1))), (10, (.int .i64 (k.1 : Int)))]) (fun _ => _) (fun k => (b1, _) :: (gt k.2.1 k.2.2 ++ ([]))) (fun k => nf - k.1) (0, none, []) ⟨by simp, gok.none 1, rfl⟩ ⟨rfl, rfl, rfl, rfl, rfl, rfl, rfl, trivial⟩ (fun w9 hs => (by rw [show gt none [] = [] from rfl, List.nil_append]; exact hs)) (fun k hF1 => ?_)
 obtain ⟨hla, hgk, hcs⟩ := hF1
 have htl := agU_len (clL M (bgL M C) zs cell) cur k.1
 refine ac_seq (ac_seq (ac_region ?_))
 refine al_p (q_move rfl) (al_p (q_move rfl) (al_p (q_lenS rfl Tryz.runUnderlying33) (al_p (q_lss rfl rfl) (al_end (aq_then ?_)))))
 refine ac_cond rfl (fun h1 => ?_) (fun h1 => ?_)
 ·have hkl : k.1 < nf := by have := of_decide_eq_true h1; omega
  refine ac_skip (aq_then (ac_seq (ac_block (ac_seq ?_))))
  obtain ⟨b_a, o_a, hA_a, hlt_a, hget_a⟩ := N_t.bg.2 (by omega)
  have hx_a : (bgL M C)[k.1]? = some (backL M C (k.1 : Int)).1 := by rw [bgL_get (by omega)]
  obtain ⟨b_b, o_b, hA_b, hlt_b, hget_b⟩ := N_t.out.2 (by omega)
  obtain ⟨rr, hrr⟩ : ∃ rr, rw_t[k.1]? = some rr := ⟨_, List.getElem?_eq_getElem (by rw [N_t.out.1]; omega)⟩
  have N_c := N_t.row k.1 rr hrr
  obtain ⟨b_c, o_c, hA_c, hlt_c, hget_c⟩ := N_c.2 (by omega)
  have hx_c : (respRow M (M.grid.nr * M.grid.nz).toNat k.1)[cell.toNat]? = some (respL M (k.1 : Int) cell).1 := by rw [respRow_get (by omega), show ((cell.toNat : Nat) : Int) = cell from by omega]
  obtain ⟨b11, o11, hA1, hlt1, hget1⟩ := hF.2 (by omega)
  have hx1 := getD_get (l := zs) (d := ⟨0, 0⟩) (k := k.1) (by omega)
  have hmb := mul_bd4 (a := cur) (b := (respL M (k.1 : Int) cell).1) (A := 1000000) (B := 250000) (by omega) c1 (respL_bd M _ _).1 (respL_bd M _ _).2
  have hbb := backL_bd M C (k.1 : Int)
  have hst := agU_step (M := M) (C := C) (zs := zs) (cell := cell) (cur := cur) (k := k.1) (by omega) (hzs _ (List.mem_of_getElem? hx1)) c0 c1
  refine ac_drawF 26 (.s .z) (by kernel_rfl) (by kernel_rfl) ?_
  refine ah_t 0 (fun w9 hs => (hs.front (.s (.z)))) rfl rfl (by kernel_rfl) (q_fieldAddr 0 rfl Tryz.runUnderlying89 rfl Tryz.sizeOf30 (by decide) rfl) (ah_t 1 (fun w9 hs => (hs.front (.s (.z)))) rfl rfl (by kernel_rfl) (q_load (i := 0) rfl rfl rfl Tryz.isAgg30) (ah_t 2 (fun w9 hs => (hs.front (.s (.z)))) rfl rfl (by kernel_rfl) (q_move rfl) ?_))
  refine ah_t 3 (fun w9 hs => (hs.front (.s (.z)))) rfl rfl (by kernel_rfl) (q_indexAddrA (i := k.1) (o_a + k.1 * 1 + 0) hA_a rfl rfl rfl (by omega) Tryz.runUnderlying30 Tryz.sizeOf3 rfl) (ah_t 4 (fun w9 hs => (hs.front (.s (.z)))) rfl rfl (by kernel_rfl) (q_loadX rfl Tryz.isAgg3 (fun w9 hs => (hs.below.cell (p := ⟨_, _, none⟩) hlt_a).trans ((hget_a k.1 _ hx_a) 0 _ rfl))) (ah_t 5 (fun w9 hs => (hs.front (.s (.z)))) rfl rfl (by kernel_rfl) (q_move rfl) ?_))
  refine ah_t 6 (fun w9 hs => (hs.front (.s (.z)))) rfl rfl (by kernel_rfl) (q_fieldAddr 1 rfl Tryz.runUnderlying89 rfl Tryz.sizeOf87 (by decide) rfl) (ah_t 7 (fun w9 hs => (hs.front (.s (.z)))) rfl rfl (by kernel_rfl) (q_load (i := 0) rfl rfl rfl Tryz.isAgg87) (ah_t 8 (fun w9 hs => (hs.front (.s (.z)))) rfl rfl (by kernel_rfl) (q_move rfl) ?_))
  refine ah_t 9 (fun w9 hs => (hs.front (.s (.z)))) rfl rfl (by kernel_rfl) (q_indexAddrA (i := k.1) (o_b + k.1 * 1 + 0) hA_b rfl rfl rfl (by omega) Tryz.runUnderlying87 Tryz.sizeOf30 rfl) (ah_t 10 (fun w9 hs => (hs.front (.s (.z)))) rfl rfl (by kernel_rfl) (q_loadX rfl Tryz.isAgg30 (fun w9 hs => (hs.below.cell (p := ⟨_, _, none⟩) hlt_b).trans ((hget_b k.1 _ hrr) 0 _ rfl))) (ah_t 11 (fun w9 hs => (hs.front (.s (.z)))) rfl rfl (by kernel_rfl) (q_move rfl) ?_))
  refine ah_t 12 (fun w9 hs => (hs.front (.s (.z)))) rfl rfl (by kernel_rfl) (q_indexAddrA (i := cell.toNat) (o_c + cell.toNat * 1 + 0) hA_c rfl rfl (by omega) (by omega) Tryz.runUnderlying30 Tryz.sizeOf3 rfl) (ah_t 13 (fun w9 hs => (hs.front (.s (.z)))) rfl rfl (by kernel_rfl) (q_loadX rfl Tryz.isAgg3 (fun w9 hs => (hs.below.cell (p := ⟨_, _, none⟩) hlt_c).trans ((hget_c cell.toNat _ hx_c) 0 _ rfl))) ?_)
  refine ah_t 14 (fun w9 hs => (hs.front (.s (.z)))) rfl rfl (by kernel_rfl) (q_mul rfl rfl (by omega)) ?_
  refine ah_t 15 (fun w9 hs => (hs.front (.s (.z)))) rfl rfl (by kernel_rfl) (q_add rfl rfl (by omega)) (ah_t 16 (fun w9 hs => (hs.front (.s (.z)))) rfl rfl (by kernel_rfl) (q_move rfl) (ah_t 17 (fun w9 hs => (hs.front (.s (.z)))) rfl rfl (by kernel_rfl) (q_move rfl) ?_))
  refine ah_t 18 (fun w9 hs => (hs.front (.s (.z)))) rfl rfl (by kernel_rfl) (q_indexAddrA (i := k.1) (o11 + k.1 * 2 + 0) hA1 rfl rfl rfl (by omega) Tryz.runUnderlying33 Tryz.sizeOf67 rfl) ?_
  refine ah_t 19 (fun w9 hs => (hs.front (.s (.z)))) rfl rfl (by kernel_rfl) (q_fieldAddr (o11 + k.1 * 2 + 0) rfl Tryz.runUnderlying67 rfl Tryz.sizeOf3 (by decide) rfl) (ah_t 20 (fun w9 hs => (hs.front (.s (.z)))) rfl rfl (by kernel_rfl) (q_loadX rfl Tryz.isAgg3 (fun w9 hs => (hs.below.cell (p := ⟨_, _, none⟩) hlt1).trans ((hget1 k.1 _ hx1) 0 _ rfl))) (ah_t 21 (fun w9 hs => (hs.front (.s (.z)))) rfl rfl (by kernel_rfl) (q_move rfl) (ah_t 22 (fun w9 hs => (hs.front (.s (.z)))) rfl rfl (by kernel_rfl) (q_move rfl) ?_)))
  refine ah_t 23 (fun w9 hs => (hs.front (.s (.z)))) rfl rfl (by kernel_rfl) (q_indexAddrA (i := k.1) (o11 + k.1 * 2 + 0) hA1 rfl rfl rfl (by omega) Tryz.runUnderlying33 Tryz.sizeOf67 rfl) ?_
  refine ah_t 24 (fun w9 hs => (hs.front (.s (.z)))) rfl rfl (by kernel_rfl) (q_fieldAddr (o11 + k.1 * 2 + 1) rfl Tryz.runUnderlying67 rfl Tryz.sizeOf3 (by decide) rfl) (ah_t 25 (fun w9 hs => (hs.front (.s (.z)))) rfl rfl (by kernel_rfl) (q_loadX rfl Tryz.isAgg3 (fun w9 hs => (hs.below.cell (p := ⟨_, _, none⟩) hlt1).trans ((hget1 k.1 _ hx1) 1 _ rfl))) (ah_one 26 rfl (by kernel_rfl) (fun hok1 hcl1 => ?_)))
  refine al_call Tryz.call38 (.cons rfl (.cons rfl (.cons rfl .nil))) rfl rfl (fun w1 hs1 => ?_)
  refine (rwithin4b_any ((backL M C (k.1 : Int)).1 + cur * (respL M (k.1 : Int) cell).1) (zs.getD k.1 ⟨0, 0⟩).lo (zs.getD k.1 ⟨0, 0⟩).hi _).mono ?_
  rintro e u1 ⟨rfl, rfl⟩
  refine ⟨_, rfl, (Below.refl _ _), ?_⟩
  clear hs1
  refine al_end (ah_last (by kernel_rfl) ?_)
  refine aq_then ?_
  refine ac_cond rfl (fun h2 => ?_) (fun h2 => ?_)
  ·have hct := hst.trans (if_pos h2)
   refine ac_region (al_p (q_move rfl) (al_p (q_move rfl) (al_new (fun b => .slice (some ⟨b, 0, none⟩) 1 1) (r_buildSlice (.cons rfl .nil) (sxd_bs_int_1_0_ _ rfl)) rfl rfl rfl ?_)))
   intro b2
   refine al_grow (z := 1) (bytes := 8) (zv := (.int .i64 0)) (o := k.2.1) (cs := k.2.2) (vs := [.int .i64 (k.1 : Int)]) rfl rfl (.s (.s (.z))) hgk (Sor.box (j := 0) rfl rfl rfl) Tryz.underlying30 (by kernel_rfl) rfl (by omega) (by decide) rfl rfl (fun o_1 g_1 => ?_)
   refine ⟨_, (.s (.s (.z))), ?_⟩
   refine al_p (q_assign rfl) (al_end (aq_inN (aq_then (ac_region ?_))))
   refine al_p (q_move rfl) ?_
   refine al_p (q_add rfl rfl (by omega)) (al_p (q_assign rfl) (al_end (aq_then ?_)))
   skip
   refine aq_round ((k.1 + 1, o_1, (k.2.2 ++ [.int .i64 (k.1 : Int)]))) (by simp only; omega) ⟨by simp only; omega, by simp only; rw [hct, List.length_append]; exact g_1, by simp only; rw [hct, hcs, List.map_append]; rfl⟩ ⟨rfl, rfl, rfl, rfl, rfl, (by simp only; rw [hct]; first | rfl | (rw [List.length_append]; rfl)), rfl, trivial⟩ (fun w9 hs => ((hs.fewer 1 rfl).tail 1 rfl))
  ·have hct := hst.trans (if_neg (by rw [h2]; decide))
   refine ac_skip (aq_inN (aq_then (ac_region (al_p (q_move rfl) ?_))))
   refine al_p (q_add rfl rfl (by omega)) (al_p (q_assign rfl) (al_end (aq_then ?_)))
   skip
   refine aq_round ((k.1 + 1, k.2.1, k.2.2)) (by simp only; omega) ⟨by simp only; omega, by simp only; rw [hct]; exact hgk, by simp only; rw [hct]; exact hcs⟩ ⟨rfl, rfl, rfl, rfl, rfl, (by simp only; rw [hct]; first | rfl | (rw [List.length_append]; rfl)), rfl, trivial⟩ (fun w9 hs => (hs.fewer 1 rfl))
 ·have hke : k.1 = nf := by have := of_decide_eq_false h1; omega
  refine ac_exit (aq_thenE (aq_thenE (aq_hit (aq_then ?_))))
  refine ac_seq (ac_region ?_)
  refine al_p (q_move rfl) (al_p (q_assign rfl) (al_end (aq_then ?_)))
  refine ac_ret (ret1 Tryz.results28 rfl (fun w9 hs => ?_))
  have hL : agL (clL M (bgL M C) zs cell) cur = agU (clL M (bgL M C) zs cell) cur k.1 := by unfold agL agU; rw [clL_len, hke, ← hnz, hzl]
  exact ⟨_, _, _, rfl, by rw [hL]; exact hs.grown (enc := intCells) (o := k.2.1) (cs := k.2.2) (zs := (agU (clL M (bgL M C) zs cell) cur k.1)) (fun _ => rfl) (fun y hy => by simp [hy]) hgk (by rw [hcs, flat_int]) rfl, hs.below⟩
end
end Go.Proofs.YthggkidiidnaoaaGreatDoor
