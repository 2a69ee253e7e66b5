import Derived.Test.YtjjajleiladbhaaGreatDoorJAY
import Derived.Test.YtjjajleiladbhaaGreatDoorJBA
import Derived.Test.YtjjajleiladbhaaGreatDoorJBB
import Derived.Test.YtjjajleiladbhaaGreatDoorJBE
import Derived.Test.YtjjajleiladbhaaGreatDoorRows
import Derived.KernelRfl
import Derived.Laws.StructEq
section
/- The specification of layer 2: pushed, Force, over this seat's translation (written by ax_rc4.py). -/
namespace Go.Proofs.YtjjajleiladbhaaGreatDoor
set_option linter.unusedVariables false
set_option linter.unusedSimpArgs false
open Go.RowKit

theorem Sta.call0 {E : Cfg} {U : Snaps} {w w' : World} (h : Sta E U [] w) (hb : Below w.heap.size w w') : Sta E ((E.w.heap.size, w') :: U) [] w' := by
  have h' := h.ext hb
  refine ⟨h'.chg, h'.box, h'.apart, fun lo u hu => ?_⟩
  cases hu with
  | head => exact ⟨Nat.le_refl _, h'.chg.size, Nat.le_refl _, fun k _ hk => rfl, h'.chg.block, fun i b cs hi => by cases hi⟩
  | tail _ hu => exact h'.snap lo u hu
theorem Sta.big {n : Nat} {D : List Deferred} {w0 u w : World} {U : Snaps} {L : Boxes} {v : Value} {z : Int} (h : Sta ⟨n, D, w0, []⟩ U L w) (hu : (w0.heap.size, u) ∈ U) (hV : BigV u v z) : BigV w v z := by
  obtain ⟨A, m, cap, P, e, ⟨hl, hI⟩, h2⟩ := hV
  obtain ⟨s0, s1, s2, s3, s4, -⟩ := h.snap _ _ hu
  refine ⟨A, m, cap, P, e, ⟨hl, fun h0 => ?_⟩, h2⟩
  obtain ⟨b, o, e1, q1, q2, q3⟩ := hI h0
  refine ⟨b, o, e1, q1, Nat.lt_of_lt_of_le q2 s2, fun j hj => ?_⟩
  have hk : w.heap[b]? = u.heap[b]? := by
    rcases Nat.lt_or_ge b w0.heap.size with g | g
    · exact (h.chg.block b g (by simp)).trans (s4 b g (by simp)).symm
    · exact s3 b g q2
  rw [World.cell?_of_block (w := u) (w' := w) (a := ⟨b, _, none⟩) hk]; exact q3 j hj

theorem flo_pos (a : Int) : flo a 1000000000 = a / 1000000000 := by simp [flo]

set_option maxRecDepth 100000 in
theorem pushed_any (t c f : Int) (w : World) (h0 : -100000000 ≤ t * c) (h1 : t * c ≤ 100000000) (f0 : -100000000000000000 ≤ f) (f1 : f ≤ 100000000000000000) : Calls Tryz.prog 90 #[(.int .i64 t), (.int .i64 c), (.int .i64 f)] w (Ret (.int .i64 (forceP (t * c) f)) w) := by
  have m1 := mul_bdd (a := t * c) (b := f) (A := 100000000) (B := 100000000000000000) h0 h1 f0 f1
  refine calls_ax (vs := [(.int .i64 t), (.int .i64 c), (.int .i64 f)]) Tryz.func90 rfl rfl ?_
  refine ac_seq ?_
  refine ac_region ?_
  refine al_q (q_assign rfl) rfl rfl rfl ?_
  refine al_end ?_
  refine aq_then ?_
  refine ac_seq ?_
  refine ac_region ?_
  refine al_q (q_move rfl) rfl rfl rfl ?_
  refine al_q (q_move rfl) rfl rfl rfl ?_
  refine al_q (q_mul rfl rfl (by omega)) rfl rfl rfl ?_
  refine al_callS Tryz.call112 (.cons rfl .nil) rfl rfl (fun w1 hs1 => ?_)
  refine (of_big (t * c) _ (by omega) (by omega)).mono ?_
  rintro e u1 ⟨v1, rfl, Vv1, hb_1⟩
  refine ⟨_, _, _, rfl, hs1.call0 hb_1, ?_⟩
  refine al_q (q_move rfl) rfl rfl rfl ?_
  refine al_callS Tryz.call112 (.cons rfl .nil) rfl rfl (fun w2 hs2 => ?_)
  refine (of_big f _ (by omega) (by omega)).mono ?_
  rintro e u2 ⟨v2, rfl, Vv2, hb_2⟩
  refine ⟨_, _, _, rfl, hs2.call0 hb_2, ?_⟩
  refine al_callS Tryz.call111 (.cons rfl (.cons rfl .nil)) rfl rfl (fun w3 hs3 => ?_)
  refine (times_big (t * c) f v1 v2 _ (hs3.big (.tail _ (.head _)) Vv1) (hs3.big (.head _) Vv2) (by simp only [pw]; omega) (by simp only [pw]; omega)).mono ?_
  rintro e u3 ⟨v3, rfl, Vv3, hb_3⟩
  refine ⟨_, _, _, rfl, hs3.call0 hb_3, ?_⟩
  refine al_callS Tryz.call112 (.cons rfl .nil) rfl rfl (fun w4 hs4 => ?_)
  refine (of_big 1000000000 _ (by omega) (by omega)).mono ?_
  rintro e u4 ⟨v4, rfl, Vv4, hb_4⟩
  refine ⟨_, _, _, rfl, hs4.call0 hb_4, ?_⟩
  refine al_callS Tryz.call110 (.cons rfl (.cons rfl .nil)) rfl rfl (fun w5 hs5 => ?_)
  refine (floor_big (t * c * f) 1000000000 v3 v4 _ (hs5.big (.tail _ (.head _)) Vv3) (hs5.big (.head _) Vv4) (by simp only [pw]; omega) (by simp only [pw]; omega) (by omega)).mono ?_
  rintro e u5 ⟨v5, rfl, Vv5, hb_5⟩
  obtain ⟨A5, n5, c5, P5, hu5, Q5⟩ := Vv5.big
  have Vv5 := Vv5.big
  subst hu5
  refine ⟨_, _, _, rfl, hs5.call0 hb_5, ?_⟩
  refine al_new (fun b => .pointer (some ⟨b, 0, none⟩)) (r_alloc Tryz.zeroValue130 rfl) rfl rfl rfl ?_
  intro b1
  refine al_storeAll (i := 0) rfl rfl rfl rfl Tryz.sizeOf130 rfl rfl .k0 rfl ?_
  refine al_end ?_
  refine aq_then ?_
  refine ac_seq ?_
  refine ac_region ?_
  refine al_q (q_loadAll (i := 0) rfl rfl Tryz.isAgg130 Tryz.sizeOf130 rfl) rfl rfl rfl ?_
  refine al_call Tryz.call113 (.cons rfl .nil) rfl rfl (fun w6 hs6 => ?_)
  refine (int_any (flo (t * c * f) 1000000000) _ _ (hs6.big (.head _) Vv5)).mono ?_
  rintro e u6 ⟨rfl, hb_6⟩
  refine ⟨_, rfl, hb_6, ?_⟩
  clear hs6
  refine al_q (q_move rfl) rfl rfl rfl ?_
  refine al_q (q_extract rfl rfl) rfl rfl rfl ?_
  refine al_q (q_extract rfl rfl) rfl rfl rfl ?_
  refine al_q (q_assign rfl) rfl rfl rfl ?_
  refine al_q (q_assign rfl) rfl rfl rfl ?_
  refine al_end ?_
  refine aq_then ?_
  refine ac_seq ?_
  refine ac_region ?_
  refine al_q (q_move rfl) rfl rfl rfl ?_
  refine al_q (q_assign rfl) rfl rfl rfl ?_
  refine al_end ?_
  refine aq_then ?_
  refine ac_ret ?_
  refine ret1 Tryz.results90 rfl (fun w9 hs => ?_)
  refine ⟨?_, hs.below⟩; rw [flo_pos, forceP_eq]; unfold intL; rw [if_pos (by omega)]

set_option maxRecDepth 100000 in
theorem rforce_bad (R : MachR) (M : MachD) (Q : CurR) (C : CurD) (i : Int) (w : World) (hM : IsM w R M) (hC : IsC w Q C) (hb : validC M C = false ∨ wthn i 0 ((M.coils.length : Int) - 1) = false) : Calls Tryz.prog 49 #[(.agg (machCells R M)), Q.v, (.int .i64 i)] w (Ret (.tuple #[.int .i64 (forceE M C i).1, .int .i64 (forceE M C i).2.1, .int .i64 (forceE M C i).2.2]) w) := by
  have hl := hM.coils.1
  have hk := hM.ka
  have hl2 : wthn i 0 ((M.coils.length : Int) - 1) = wthn i 0 ((R.la : Int) - 1) := by rw [hl]
  refine calls_ax (vs := [(.agg (machCells R M)), Q.v, (.int .i64 i)]) Tryz.func49 rfl rfl ?_
  refine ac_seq ?_
  refine ac_region ?_
  refine al_new (fun b => .pointer (some ⟨b, 0, none⟩)) (r_box rfl rfl) rfl rfl rfl ?_
  intro b1
  refine al_new (fun b => .pointer (some ⟨b, 0, none⟩)) (r_box rfl rfl) rfl rfl rfl ?_
  intro b2
  refine al_q (q_assign rfl) rfl rfl rfl ?_
  refine al_q (q_assign rfl) rfl rfl rfl ?_
  refine al_q (q_assign rfl) rfl rfl rfl ?_
  refine al_end ?_
  refine aq_then ?_
  refine ac_seq ?_
  refine ac_block ?_
  refine ac_seq ?_
  refine ac_region ?_
  refine al_q (q_loadAll (i := 1) rfl rfl Tryz.isAgg29 Tryz.sizeOf29 rfl) rfl rfl rfl ?_
  refine al_q (q_loadAll (i := 0) rfl rfl Tryz.isAgg34 Tryz.sizeOf34 rfl) rfl rfl rfl ?_
  refine al_call Tryz.call39 (.cons rfl (.cons rfl .nil)) rfl rfl (fun w1 hs1 => ?_)
  refine (rvalid2_any R M Q C _ (hM.below hs1.below) (hC.below hs1.below)).mono ?_
  rintro e u1 ⟨rfl, hb_1⟩
  refine ⟨_, rfl, hb_1, ?_⟩
  clear hs1
  refine al_q (q_not rfl) rfl rfl rfl ?_
  refine al_q (q_assign rfl) rfl rfl rfl ?_
  refine al_end ?_
  refine aq_then ?_
  refine ac_cond rfl (fun h1 => ?_) (fun h1 => ?_)
  · have hv : validC M C = false := by simpa using h1
    refine ac_seq ?_
    refine ac_region ?_
    refine al_q (q_assign rfl) rfl rfl rfl ?_
    refine al_q (q_assign rfl) rfl rfl rfl ?_
    refine al_q (q_assign rfl) rfl rfl rfl ?_
    refine al_end ?_
    refine aq_then ?_
    refine ac_ret ?_
    refine aq_inR ?_
    refine aq_thenR ?_
    refine retR Tryz.results49 (.tmp rfl (.tmp rfl (.tmp rfl .nil))) .two (fun w9 hs => ?_)
    refine ⟨?_, hs.below⟩; simp_all [forceE]
  · have hv : validC M C = true := by simpa using h1
    refine ac_seq ?_
    refine ac_region ?_
    refine al_q (q_move rfl) rfl rfl rfl ?_
    refine al_q (q_fieldAddr 1 rfl Tryz.runUnderlying29 rfl Tryz.sizeOf22 (by decide) rfl) rfl rfl rfl ?_
    refine al_q (q_load (i := 1) rfl rfl rfl Tryz.isAgg22) rfl rfl rfl ?_
    refine al_q (q_lenS rfl Tryz.runUnderlying22) rfl rfl rfl ?_
    refine al_q (q_sub rfl rfl (by omega)) rfl rfl rfl ?_
    refine al_call Tryz.call70 (.cons rfl (.cons rfl (.cons rfl .nil))) rfl rfl (fun w2 hs2 => ?_)
    refine (rwithin2_any i 0 ((R.la : Int) - 1) _).mono ?_
    rintro e u2 ⟨rfl, rfl⟩
    refine ⟨_, rfl, (Below.refl _ _), ?_⟩
    clear hs2
    refine al_q (q_not rfl) rfl rfl rfl ?_
    refine al_q (q_assign rfl) rfl rfl rfl ?_
    refine al_end ?_
    refine aq_then ?_
    refine ac_cond rfl (fun h2 => ?_) (fun h2 => ?_)
    · have hw : wthn i 0 ((R.la : Int) - 1) = false := by simpa using h2
      refine ac_seq ?_
      refine ac_region ?_
      refine al_q (q_assign rfl) rfl rfl rfl ?_
      refine al_q (q_assign rfl) rfl rfl rfl ?_
      refine al_q (q_assign rfl) rfl rfl rfl ?_
      refine al_end ?_
      refine aq_then ?_
      refine ac_ret ?_
      refine aq_inR ?_
      refine aq_thenR ?_
      refine retR Tryz.results49 (.tmp rfl (.tmp rfl (.tmp rfl .nil))) .two (fun w9 hs => ?_)
      refine ⟨?_, hs.below⟩; simp_all [forceE]
    · have hw : wthn i 0 ((R.la : Int) - 1) = true := by simpa using h2
      rw [hv, hl2, hw] at hb; simp at hb

set_option maxRecDepth 100000 in
theorem rforce_val (R : MachR) (M : MachD) (Q : CurR) (C : CurD) (i : Nat) (x : CoilD) (c : Int) (w : World) (hM : IsM w R M) (hC : IsC w Q C) (hv : Fit2 M C) (hx : M.coils[i]? = some x) (hc : C.coils[i]? = some c) : Calls Tryz.prog 49 #[(.agg (machCells R M)), Q.v, (.int .i64 (i : Int))] w (Ret (.tuple #[.int .i64 (forceP (x.turns * c) (fieldP (x.r, x.z) (srcM M C)).2), .int .i64 (forceP (-x.turns * c) (fieldP (x.r, x.z) (srcM M C)).1), .int .i64 0]) w) := by
  have hl := hM.coils.1
  have hk := hM.ka
  have hil := (List.getElem?_eq_some_iff.1 hx).1
  have hl2 := hC.coils.1
  have hil2 := (List.getElem?_eq_some_iff.1 hc).1
  obtain ⟨b1, o1, hA1, hlt1, hget1⟩ := hM.coils.2 (by omega)
  obtain ⟨b2, o2, hA2, hlt2, hget2⟩ := hC.coils.2 (by omega)
  have hs0 := sound_of hv.check
  have hx0 := hs0.coils.2 x (List.mem_of_getElem? hx)
  have hc0 := hv.coils.2 c (List.mem_of_getElem? hc)
  have hm := mul_bdd (a := x.turns) (b := c) (A := 100) (B := 1000000) (by omega) (by omega) hc0.1 hc0.2
  have hbd := fun p => (small_of hv).bd p
  have hb1 := hbd (x.r, x.z - 1)
  have hb2 := hbd (x.r, x.z + 1)
  have hb3 := hbd (x.r + 1, x.z)
  have hb4 := hbd (x.r - 1, x.z)
  refine calls_ax (vs := [(.agg (machCells R M)), Q.v, (.int .i64 (i : Int))]) Tryz.func49 rfl rfl ?_
  refine ac_seq ?_
  refine ac_region ?_
  refine al_new (fun b => .pointer (some ⟨b, 0, none⟩)) (r_box rfl rfl) rfl rfl rfl ?_
  intro b1
  refine al_new (fun b => .pointer (some ⟨b, 0, none⟩)) (r_box rfl rfl) rfl rfl rfl ?_
  intro b2
  refine al_q (q_assign rfl) rfl rfl rfl ?_
  refine al_q (q_assign rfl) rfl rfl rfl ?_
  refine al_q (q_assign rfl) rfl rfl rfl ?_
  refine al_end ?_
  refine aq_then ?_
  refine ac_seq ?_
  refine ac_block ?_
  refine ac_seq ?_
  refine ac_region ?_
  refine al_q (q_loadAll (i := 1) rfl rfl Tryz.isAgg29 Tryz.sizeOf29 rfl) rfl rfl rfl ?_
  refine al_q (q_loadAll (i := 0) rfl rfl Tryz.isAgg34 Tryz.sizeOf34 rfl) rfl rfl rfl ?_
  refine al_call Tryz.call39 (.cons rfl (.cons rfl .nil)) rfl rfl (fun w1 hs1 => ?_)
  refine (rvalid2_any R M Q C _ (hM.below hs1.below) (hC.below hs1.below)).mono ?_
  rintro e u1 ⟨rfl, hb_1⟩
  refine ⟨_, rfl, hb_1, ?_⟩
  clear hs1
  refine al_q (q_not rfl) rfl rfl rfl ?_
  refine al_q (q_assign rfl) rfl rfl rfl ?_
  refine al_end ?_
  refine aq_then ?_
  refine ac_cond rfl (fun h1 => ?_) (fun h1 => ?_)
  · simp [fit2_iff.2 hv] at h1
  · refine ac_seq ?_
    refine ac_region ?_
    refine al_q (q_move rfl) rfl rfl rfl ?_
    refine al_q (q_fieldAddr 1 rfl Tryz.runUnderlying29 rfl Tryz.sizeOf22 (by decide) rfl) rfl rfl rfl ?_
    refine al_q (q_load (i := 1) rfl rfl rfl Tryz.isAgg22) rfl rfl rfl ?_
    refine al_q (q_lenS rfl Tryz.runUnderlying22) rfl rfl rfl ?_
    refine al_q (q_sub rfl rfl (by omega)) rfl rfl rfl ?_
    refine al_call Tryz.call70 (.cons rfl (.cons rfl (.cons rfl .nil))) rfl rfl (fun w2 hs2 => ?_)
    refine (rwithin2_any (i : Int) 0 ((R.la : Int) - 1) _).mono ?_
    rintro e u2 ⟨rfl, rfl⟩
    refine ⟨_, rfl, (Below.refl _ _), ?_⟩
    clear hs2
    refine al_q (q_not rfl) rfl rfl rfl ?_
    refine al_q (q_assign rfl) rfl rfl rfl ?_
    refine al_end ?_
    refine aq_then ?_
    refine ac_cond rfl (fun h2 => ?_) (fun h2 => ?_)
    · simp [wthn] at h2; omega
    · refine ac_skip ?_
      refine aq_inN ?_
      refine aq_then ?_
      refine ac_seq ?_
      refine ac_region ?_
      refine al_q (q_fieldAddr 1 rfl Tryz.runUnderlying29 rfl Tryz.sizeOf22 (by decide) rfl) rfl rfl rfl ?_
      refine al_q (q_load (i := 1) rfl rfl rfl Tryz.isAgg22) rfl rfl rfl ?_
      refine al_q (q_move rfl) rfl rfl rfl ?_
      refine al_q (q_indexAddrA (i := i) (o1 + i * 8 + 0) hA1 rfl rfl rfl (by omega) Tryz.runUnderlying22 Tryz.sizeOf75 rfl) rfl rfl rfl ?_
      refine al_q (q_loadXs (CoilD.cells x) rfl Tryz.isAgg75 Tryz.sizeOf75 (fun w9 hs j9 v9 h9 => by rw [addr_add]; exact (hs.below.cell (p := ⟨_, _, none⟩) hlt1).trans ((hget1 i x hx) j9 v9 h9)) rfl) rfl rfl rfl ?_
      refine al_new (fun b => .pointer (some ⟨b, 0, none⟩)) (r_alloc Tryz.zeroValue75 rfl) rfl rfl rfl ?_
      intro b3
      refine al_storeAll (i := 0) rfl rfl rfl rfl Tryz.sizeOf75 rfl rfl .k0 rfl ?_
      refine al_end ?_
      refine aq_then ?_
      refine ac_seq ?_
      refine ac_region ?_
      refine al_q (q_loadAll (i := 2) rfl rfl Tryz.isAgg29 Tryz.sizeOf29 rfl) rfl rfl rfl ?_
      refine al_q (q_loadAll (i := 1) rfl rfl Tryz.isAgg34 Tryz.sizeOf34 rfl) rfl rfl rfl ?_
      refine al_q (q_fieldAddr 1 rfl Tryz.runUnderlying75 rfl Tryz.sizeOf3 (by decide) rfl) rfl rfl rfl ?_
      refine al_q (q_load (i := 0) rfl rfl rfl Tryz.isAgg3) rfl rfl rfl ?_
      refine al_q (q_fieldAddr 2 rfl Tryz.runUnderlying75 rfl Tryz.sizeOf3 (by decide) rfl) rfl rfl rfl ?_
      refine al_q (q_load (i := 0) rfl rfl rfl Tryz.isAgg3) rfl rfl rfl ?_
      refine al_call Tryz.call88 (.cons rfl (.cons rfl (.cons rfl (.cons rfl .nil)))) rfl rfl (fun w3 hs3 => ?_)
      refine (rfield_any R M Q C x.r x.z _ (hM.below hs3.below) (hC.below hs3.below) hv (by omega) (by omega) (by omega) (by omega)).mono ?_
      rintro e u3 ⟨rfl, hb_3⟩
      refine ⟨_, rfl, hb_3, ?_⟩
      clear hs3
      refine al_q (q_move rfl) rfl rfl rfl ?_
      refine al_q (q_extract rfl rfl) rfl rfl rfl ?_
      refine al_q (q_extract rfl rfl) rfl rfl rfl ?_
      refine al_q (q_assign rfl) rfl rfl rfl ?_
      refine al_q (q_assign rfl) rfl rfl rfl ?_
      refine al_end ?_
      refine aq_then ?_
      refine ac_seq ?_
      refine ac_draw 21 (by kernel_rfl) (by kernel_rfl) ?_
      refine ah_take 0 (fun w9 hs => hs) rfl rfl rfl (by kernel_rfl) (by kernel_rfl) (by kernel_rfl) (fun _ _ _ h => h) rfl (q_fieldAddr 3 rfl Tryz.runUnderlying75 rfl Tryz.sizeOf3 (by decide) rfl) ?_
      refine ah_take 1 (fun w9 hs => hs) rfl rfl rfl (by kernel_rfl) (by kernel_rfl) (by kernel_rfl) (fun _ _ _ h => h) rfl (q_load (i := 0) rfl rfl rfl Tryz.isAgg3) ?_
      refine ah_take 2 (fun w9 hs => hs) rfl rfl rfl (by kernel_rfl) (by kernel_rfl) (by kernel_rfl) (fun _ _ _ h => h) rfl (q_fieldAddr 0 rfl Tryz.runUnderlying34 rfl Tryz.sizeOf32 (by decide) rfl) ?_
      refine ah_take 3 (fun w9 hs => hs) rfl rfl rfl (by kernel_rfl) (by kernel_rfl) (by kernel_rfl) (fun _ _ _ h => h) rfl (q_load (i := 1) rfl rfl rfl Tryz.isAgg32) ?_
      refine ah_take 4 (fun w9 hs => hs) rfl rfl rfl (by kernel_rfl) (by kernel_rfl) (by kernel_rfl) (fun _ _ _ h => h) rfl (q_move rfl) ?_
      refine ah_take 5 (fun w9 hs => hs) rfl rfl rfl (by kernel_rfl) (by kernel_rfl) (by kernel_rfl) (fun _ _ _ h => h) rfl (q_indexAddrA (i := i) (o2 + i * 1 + 0) hA2 rfl rfl rfl (by omega) Tryz.runUnderlying32 Tryz.sizeOf3 rfl) ?_
      refine ah_take 6 (fun w9 hs => hs) rfl rfl rfl (by kernel_rfl) (by kernel_rfl) (by kernel_rfl) (fun _ _ _ h => h) rfl (q_loadX rfl Tryz.isAgg3 (fun w9 hs => (hs.below.cell (p := ⟨_, _, none⟩) hlt2).trans ((hget2 i c hc) 0 _ rfl))) ?_
      refine ah_take 7 (fun w9 hs => hs) rfl rfl rfl (by kernel_rfl) (by kernel_rfl) (by kernel_rfl) (fun _ _ _ h => h) rfl (q_move rfl) ?_
      refine ah_take 9 (fun w9 hs => hs) rfl rfl rfl (by kernel_rfl) (by kernel_rfl) (by kernel_rfl) (fun _ _ _ h => h) rfl (q_fieldAddr 3 rfl Tryz.runUnderlying75 rfl Tryz.sizeOf3 (by decide) rfl) ?_
      refine ah_take 10 (fun w9 hs => hs) rfl rfl rfl (by kernel_rfl) (by kernel_rfl) (by kernel_rfl) (fun _ _ _ h => h) rfl (q_load (i := 0) rfl rfl rfl Tryz.isAgg3) ?_
      refine ah_take 11 (fun w9 hs => hs) rfl rfl rfl (by kernel_rfl) (by kernel_rfl) (by kernel_rfl) (fun _ _ _ h => h) rfl (q_neg rfl (by omega)) ?_
      refine ah_take 12 (fun w9 hs => hs) rfl rfl rfl (by kernel_rfl) (by kernel_rfl) (by kernel_rfl) (fun _ _ _ h => h) rfl (q_fieldAddr 0 rfl Tryz.runUnderlying34 rfl Tryz.sizeOf32 (by decide) rfl) ?_
      refine ah_take 13 (fun w9 hs => hs) rfl rfl rfl (by kernel_rfl) (by kernel_rfl) (by kernel_rfl) (fun _ _ _ h => h) rfl (q_load (i := 1) rfl rfl rfl Tryz.isAgg32) ?_
      refine ah_take 14 (fun w9 hs => hs) rfl rfl rfl (by kernel_rfl) (by kernel_rfl) (by kernel_rfl) (fun _ _ _ h => h) rfl (q_move rfl) ?_
      refine ah_take 15 (fun w9 hs => hs) rfl rfl rfl (by kernel_rfl) (by kernel_rfl) (by kernel_rfl) (fun _ _ _ h => h) rfl (q_indexAddrA (i := i) (o2 + i * 1 + 0) hA2 rfl rfl rfl (by omega) Tryz.runUnderlying32 Tryz.sizeOf3 rfl) ?_
      refine ah_take 16 (fun w9 hs => hs) rfl rfl rfl (by kernel_rfl) (by kernel_rfl) (by kernel_rfl) (fun _ _ _ h => h) rfl (q_loadX rfl Tryz.isAgg3 (fun w9 hs => (hs.below.cell (p := ⟨_, _, none⟩) hlt2).trans ((hget2 i c hc) 0 _ rfl))) ?_
      refine ah_take 17 (fun w9 hs => hs) rfl rfl rfl (by kernel_rfl) (by kernel_rfl) (by kernel_rfl) (fun _ _ _ h => h) rfl (q_move rfl) ?_
      refine ah_one 8 rfl (by kernel_rfl) (fun hok1 hcl1 => ?_)
      refine al_call Tryz.call90 (.cons rfl (.cons rfl (.cons rfl .nil))) rfl rfl (fun w4 hs4 => ?_)
      refine (pushed_any x.turns c (fieldP (x.r, x.z) (srcM M C)).2 _ (by omega) (by omega) (by simp only [fieldP]; omega) (by simp only [fieldP]; omega)).mono ?_
      rintro e u4 ⟨rfl, hb_4⟩
      refine ⟨_, rfl, hb_4, ?_⟩
      clear hs4
      refine al_end (ah_back hok1 hcl1 (fun w9 hs => (hs.fewer 1 rfl)) ?_)
      refine ah_one 18 rfl (by kernel_rfl) (fun hok2 hcl2 => ?_)
      refine al_call Tryz.call90 (.cons rfl (.cons rfl (.cons rfl .nil))) rfl rfl (fun w5 hs5 => ?_)
      refine (pushed_any (-x.turns) c (fieldP (x.r, x.z) (srcM M C)).1 _ (by rw [Int.neg_mul]; omega) (by rw [Int.neg_mul]; omega) (by simp only [fieldP]; omega) (by simp only [fieldP]; omega)).mono ?_
      rintro e u5 ⟨rfl, hb_5⟩
      refine ⟨_, rfl, hb_5, ?_⟩
      clear hs5
      refine al_end (ah_back hok2 hcl2 (fun w9 hs => (hs.fewer 2 rfl)) ?_)
      refine ah_one 19 rfl (by kernel_rfl) (fun hok3 hcl3 => ?_)
      refine al_q (q_assign rfl) rfl rfl rfl ?_
      refine al_end (ah_back hok3 hcl3 (fun w9 hs => (hs.fewer 2 rfl)) ?_)
      refine ah_one 20 rfl (by kernel_rfl) (fun hok4 hcl4 => ?_)
      refine al_q (q_assign rfl) rfl rfl rfl ?_
      refine al_end (ah_back hok4 hcl4 (fun w9 hs => (hs.fewer 2 rfl)) ?_)
      refine ah_one 21 rfl (by kernel_rfl) (fun hok5 hcl5 => ?_)
      refine al_q (q_assign rfl) rfl rfl rfl ?_
      refine al_end (ah_last (by kernel_rfl) ?_)
      refine aq_then ?_
      refine ac_ret ?_
      refine retR Tryz.results49 (.tmp rfl (.tmp rfl (.tmp rfl .nil))) .two (fun w9 hs => ?_)
      exact ⟨rfl, hs.below⟩

theorem rForce_any (R : MachR) (M : MachD) (Q : CurR) (C : CurD) (i : Int) (w : World) (hM : IsM w R M) (hC : IsC w Q C) :
    Calls Tryz.prog 49 #[.agg (machCells R M), Q.v, .int .i64 i] w (Ret (.tuple #[.int .i64 (forceE M C i).1, .int .i64 (forceE M C i).2.1, .int .i64 (forceE M C i).2.2]) w) := by
  cases h1 : validC M C with
  | false => exact rforce_bad R M Q C i w hM hC (Or.inl h1)
  | true =>
    cases h2 : wthn i 0 ((M.coils.length : Int) - 1) with
    | false => exact rforce_bad R M Q C i w hM hC (Or.inr h2)
    | true =>
      have hw := wthn_iff.1 h2
      have hv := fit2_iff.1 h1
      have hn : i.toNat < M.coils.length := by omega
      have hn2 : i.toNat < C.coils.length := by rw [hv.coils.1]; exact hn
      have e : ((i.toNat : Nat) : Int) = i := by omega
      have h := rforce_val R M Q C i.toNat M.coils[i.toNat] C.coils[i.toNat] w hM hC hv (List.getElem?_eq_getElem hn) (List.getElem?_eq_getElem hn2)
      rw [e] at h
      simpa [forceE, h1, h2, List.getElem?_eq_getElem hn, List.getElem?_eq_getElem hn2, Int.neg_mul] using h

end Go.Proofs.YtjjajleiladbhaaGreatDoor
end
