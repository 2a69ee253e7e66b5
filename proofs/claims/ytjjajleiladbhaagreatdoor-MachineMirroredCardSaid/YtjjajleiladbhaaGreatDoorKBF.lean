import Derived.Test.YtjjajleiladbhaaGreatDoorKBE
import Derived.Test.YtjjajleiladbhaaGreatDoorRows
import Derived.KernelRfl
import Derived.Laws.StructEq
section
/- Package machine: mirrorMachine, mirrorCurrents, Mirror, over this seat's translation (written by ax_mm.py). -/
namespace Go.Proofs.YtjjajleiladbhaaGreatDoor
set_option linter.unusedVariables false
set_option linter.unusedSimpArgs false
open Go.RowKit

/-- a machine, currents that a callee has made -/
structure NewMT (B : Nat) (w : World) (R : MachR) (M : MachD) : Prop where
  a : NewT 8 CoilD.cells B w R.A R.la R.ca M.coils
  b : NewT 4 ShellD.cells B w R.B R.lb R.cb M.shells
  c : NewT 2 PointD.cells B w R.C R.lc R.cc M.limits
  d : NewT 5 SensorD.cells B w R.D R.ld R.cd M.sensors
structure NewCT (B : Nat) (w : World) (Q : CurR) (C : CurD) : Prop where
  a : NewT 1 intCells B w Q.A Q.la Q.ca C.coils
  b : NewT 1 intCells B w Q.B Q.lb Q.cb C.shells
  c : NewT 1 intCells B w Q.C Q.lc Q.cc C.plasma
theorem Sta.newMT {E : Cfg} {U : Snaps} {L : Boxes} {w u : World} {lo : Nat} {R : MachR} {M : MachD} (h : Sta E U L w) (hu : (lo, u) ∈ U) (hN : NewMT lo u R M) (ka : R.la ≤ 1000000000000000) (kb : R.lb ≤ 1000000000000000) (kc : R.lc ≤ 1000000000000000) (kd : R.ld ≤ 1000000000000000) : IsM w R M :=
  ⟨h.newT hu hN.a, h.newT hu hN.b, h.newT hu hN.c, h.newT hu hN.d, hN.a.le.1, hN.b.le.1, hN.c.le.1, hN.d.le.1, hN.a.le.2, hN.b.le.2, hN.c.le.2, hN.d.le.2, ka, kb, kc, kd⟩
theorem Sta.newCT {E : Cfg} {U : Snaps} {L : Boxes} {w u : World} {lo : Nat} {Q : CurR} {C : CurD} (h : Sta E U L w) (hu : (lo, u) ∈ U) (hN : NewCT lo u Q C) (ka : Q.la ≤ 1000000000000000) (kb : Q.lb ≤ 1000000000000000) (kc : Q.lc ≤ 1000000000000000) : IsC w Q C :=
  ⟨h.newT hu hN.a, h.newT hu hN.b, h.newT hu hN.c, hN.a.le.1, hN.b.le.1, hN.c.le.1, hN.a.le.2, hN.b.le.2, hN.c.le.2, ka, kb, kc⟩
theorem cell_top {g : GridD} (h : g.Fine) : cellZ g (g.nr * g.nz - 1) = g.z + (g.nz - 1) * g.step := by
  obtain ⟨c, d, hc, hd, hn⟩ := fine_nat h
  have hg := cells_fine h
  have hdc : 0 < d * c := by omega
  have hcp : 0 < c := Nat.pos_of_mul_pos_left hdc
  have hdp : 0 < d := Nat.pos_of_mul_pos_right hdc
  have top : d * c - 1 = (d - 1) * c + (c - 1) := by
    have : (d - 1) * c + c = d * c := by rw [← Nat.succ_mul]; congr 1; omega
    omega
  have z1 : ((d * c - 1 : Nat) : Int) / (c : Int) = ((d - 1 : Nat) : Int) := by
    have : (d * c - 1) / c = d - 1 := by
      rw [top, Nat.mul_comm, Nat.mul_add_div hcp, Nat.div_eq_of_lt (by omega)]; omega
    exact_mod_cast this
  have e2 : g.nr * g.nz - 1 = ((d * c - 1 : Nat) : Int) := by omega
  unfold cellZ
  rw [e2, hc, z1, hd, show ((d - 1 : Nat) : Int) = (d : Int) - 1 by omega]

set_option maxRecDepth 100000 in
theorem mirrorMachine_any (R : MachR) (M : MachD) (w : World) (hM : IsM w R M) (hc : checkC M = 0) : Calls Tryz.prog 91 #[(.agg (machCells R M))] w (fun e w' => ∃ R' : MachR, e = .returned (.agg (machCells R' (mirM M))) ∧ NewMT w.heap.size w' R' (mirM M) ∧ (R'.la = R.la ∧ R'.lb = R.lb ∧ R'.lc = R.lc ∧ R'.ld = R.ld) ∧ Below w.heap.size w w') := by
  have hs0 := sound_of hc
  have hcf := cells_fine hs0.grid
  have hlo := limits_ok hc
  have e1 := hM.coils.1
  have e2 := hM.shells.1
  have e3 := hM.limits.1
  have e4 := hM.sensors.1
  have f1 := hs0.coils.1
  have f2 := hs0.shells.1
  have f3 := hlo.1
  have f4 := hs0.sensors.1
  have hz1 : ∀ x ∈ M.coils, -60 ≤ x.z ∧ x.z ≤ 60 := fun x hx => (hs0.coils.2 x hx).2.2
  have hz2 : ∀ x ∈ M.shells, -60 ≤ x.z ∧ x.z ≤ 60 := fun x hx => (hs0.shells.2 x hx).2
  have hz3 : ∀ x ∈ M.limits, -60 ≤ x.z ∧ x.z ≤ 60 := fun x hx => (hlo.2 x hx).2
  have hz4 : ∀ x ∈ M.sensors, -60 ≤ x.z ∧ x.z ≤ 60 := fun x hx => (hs0.sensors.2 x hx).2.1.2
  have hzt := cell_top hs0.grid
  have hzb : -60 ≤ cellZ M.grid (M.grid.nr * M.grid.nz - 1) ∧ cellZ M.grid (M.grid.nr * M.grid.nz - 1) ≤ 20000 := by
    have h1 := (cell_bd hs0.grid (i := M.grid.nr * M.grid.nz - 1) (by omega) (by omega)).2
    have h2 := hs0.grid
    obtain ⟨_, _, z0, z1, _⟩ := h2
    unfold cellZ; omega
  refine calls_ax (vs := [(.agg (machCells R M))]) Tryz.func91 rfl rfl ?_
  refine ac_seq ?_
  refine ac_region ?_
  refine al_new (fun b => .pointer (some ⟨b, 0, none⟩)) (r_box rfl rfl) rfl rfl rfl ?_
  intro b1
  refine al_new (fun b => .pointer (some ⟨b, 0, none⟩)) (r_alloc Tryz.zeroValue29 rfl) rfl rfl rfl ?_
  intro b2
  refine al_end ?_
  refine aq_then ?_
  refine ac_seq ?_
  refine ac_region ?_
  refine al_q (q_fieldAddr 1 rfl Tryz.runUnderlying29 rfl Tryz.sizeOf22 (by decide) rfl) rfl rfl rfl ?_
  refine al_q (q_load (i := 1) rfl rfl rfl Tryz.isAgg22) rfl rfl rfl ?_
  refine al_call Tryz.call114 (.cons rfl (.cons rfl .nil)) rfl rfl (fun w1 hs1 => ?_)
  refine (turned_coil_any R.A R.la R.ca M.coils _ (hM.coils.below hs1.below) (by omega) hz1).mono ?_
  rintro e u1 ⟨A1, c1, rfl, N1, hb_1⟩
  refine ⟨_, rfl, hb_1, ?_⟩
  clear hs1
  refine al_q (q_fieldAddr 1 rfl Tryz.runUnderlying29 rfl Tryz.sizeOf22 (by decide) rfl) rfl rfl rfl ?_
  refine al_store1 (i := 1) rfl rfl rfl rfl Tryz.sizeOf22 .k1 .k1 rfl ?_
  refine al_end ?_
  refine aq_then ?_
  refine ac_seq ?_
  refine ac_region ?_
  refine al_q (q_fieldAddr 2 rfl Tryz.runUnderlying29 rfl Tryz.sizeOf23 (by decide) rfl) rfl rfl rfl ?_
  refine al_q (q_load (i := 1) rfl rfl rfl Tryz.isAgg23) rfl rfl rfl ?_
  refine al_call Tryz.call116 (.cons rfl (.cons rfl .nil)) rfl rfl (fun w2 hs2 => ?_)
  refine (turned_shell_any R.B R.lb R.cb M.shells _ (hM.shells.below hs2.below) (by omega) hz2).mono ?_
  rintro e u2 ⟨A2, c2, rfl, N2, hb_2⟩
  refine ⟨_, rfl, hb_2, ?_⟩
  clear hs2
  refine al_q (q_fieldAddr 2 rfl Tryz.runUnderlying29 rfl Tryz.sizeOf23 (by decide) rfl) rfl rfl rfl ?_
  refine al_store1 (i := 1) rfl rfl rfl rfl Tryz.sizeOf23 .k2 .k1 rfl ?_
  refine al_end ?_
  refine aq_then ?_
  refine ac_seq ?_
  refine ac_region ?_
  refine al_q (q_fieldAddr 3 rfl Tryz.runUnderlying29 rfl Tryz.sizeOf24 (by decide) rfl) rfl rfl rfl ?_
  refine al_q (q_load (i := 1) rfl rfl rfl Tryz.isAgg24) rfl rfl rfl ?_
  refine al_call Tryz.call118 (.cons rfl (.cons rfl .nil)) rfl rfl (fun w3 hs3 => ?_)
  refine (turned_point_any R.C R.lc R.cc M.limits _ (hM.limits.below hs3.below) (by omega) hz3).mono ?_
  rintro e u3 ⟨A3, c3, rfl, N3, hb_3⟩
  refine ⟨_, rfl, hb_3, ?_⟩
  clear hs3
  refine al_q (q_fieldAddr 3 rfl Tryz.runUnderlying29 rfl Tryz.sizeOf24 (by decide) rfl) rfl rfl rfl ?_
  refine al_store1 (i := 1) rfl rfl rfl rfl Tryz.sizeOf24 .k3 .k1 rfl ?_
  refine al_end ?_
  refine aq_then ?_
  refine ac_seq ?_
  refine ac_region ?_
  refine al_q (q_fieldAddr 9 rfl Tryz.runUnderlying29 rfl Tryz.sizeOf27 (by decide) rfl) rfl rfl rfl ?_
  refine al_q (q_load (i := 1) rfl rfl rfl Tryz.isAgg27) rfl rfl rfl ?_
  refine al_call Tryz.call120 (.cons rfl (.cons rfl .nil)) rfl rfl (fun w4 hs4 => ?_)
  refine (turned_sensor_any R.D R.ld R.cd M.sensors _ (hM.sensors.below hs4.below) (by omega) hz4).mono ?_
  rintro e u4 ⟨A4, c4, rfl, N4, hb_4⟩
  refine ⟨_, rfl, hb_4, ?_⟩
  clear hs4
  refine al_q (q_fieldAddr 9 rfl Tryz.runUnderlying29 rfl Tryz.sizeOf27 (by decide) rfl) rfl rfl rfl ?_
  refine al_store1 (i := 1) rfl rfl rfl rfl Tryz.sizeOf27 .k9 .k1 rfl ?_
  refine al_end ?_
  refine aq_then ?_
  refine ac_seq ?_
  refine ac_draw 11 (by kernel_rfl) (by kernel_rfl) ?_
  refine ah_take 0 (fun w9 hs => hs) rfl rfl rfl (by kernel_rfl) (by kernel_rfl) (by kernel_rfl) (fun _ _ _ h => h) rfl (q_fieldAddr 4 rfl Tryz.runUnderlying29 rfl Tryz.sizeOf26 (by decide) rfl) ?_
  refine ah_take 1 (fun w9 hs => hs) rfl rfl rfl (by kernel_rfl) (by kernel_rfl) (by kernel_rfl) (fun _ _ _ h => h) rfl (q_loadSub (i := 1) rfl rfl Tryz.isAgg26 Tryz.sizeOf26 .k4 .k5) ?_
  refine ah_take 2 (fun w9 hs => hs) rfl rfl rfl (by kernel_rfl) (by kernel_rfl) (by kernel_rfl) (fun _ _ _ h => h) rfl (q_fieldAddr 4 rfl Tryz.runUnderlying29 rfl Tryz.sizeOf26 (by decide) rfl) ?_
  refine ah_take 3 (fun w9 hs => hs) rfl rfl rfl (by kernel_rfl) (by kernel_rfl) (by kernel_rfl) (fun _ _ _ h => h) rfl (q_loadSub (i := 1) rfl rfl Tryz.isAgg26 Tryz.sizeOf26 .k4 .k5) ?_
  refine ah_one 4 rfl (by kernel_rfl) (fun hok1 hcl1 => ?_)
  refine al_call Tryz.call75 (.cons rfl .nil) rfl rfl (fun w5 hs5 => ?_)
  refine (cells_any M.grid _ (by omega) (by omega)).mono ?_
  rintro e u5 ⟨rfl, hb_5⟩
  refine ⟨_, rfl, hb_5, ?_⟩
  clear hs5
  refine al_end (ah_back hok1 hcl1 (fun w9 hs => (hs.fewer 1 rfl)) ?_)
  refine ah_take 5 (fun w9 hs => (hs.fewer 1 rfl)) rfl rfl rfl (by kernel_rfl) (by kernel_rfl) (by kernel_rfl) (fun _ _ _ h => h) rfl (q_sub rfl rfl (by omega)) ?_
  refine ah_one 6 rfl (by kernel_rfl) (fun hok2 hcl2 => ?_)
  refine al_call Tryz.call76 (.cons rfl (.cons rfl .nil)) rfl rfl (fun w6 hs6 => ?_)
  refine (cellPlace_any M.grid (M.grid.nr * M.grid.nz - 1) _ hs0.grid (by omega) (by omega)).mono ?_
  rintro e u6 ⟨rfl, hb_6⟩
  refine ⟨_, rfl, hb_6, ?_⟩
  clear hs6
  refine al_end (ah_back hok2 hcl2 (fun w9 hs => (hs.fewer 2 rfl)) ?_)
  refine ah_take 7 (fun w9 hs => (hs.fewer 2 rfl)) rfl rfl rfl (by kernel_rfl) (by kernel_rfl) (by kernel_rfl) (fun _ _ _ h => h) rfl (q_fieldV rfl Tryz.runUnderlying40 rfl Tryz.isAgg3 rfl) ?_
  refine ah_take 8 (fun w9 hs => (hs.fewer 2 rfl)) rfl rfl rfl (by kernel_rfl) (by kernel_rfl) (by kernel_rfl) (fun _ _ _ h => h) rfl (q_neg rfl (by omega)) ?_
  refine ah_take 9 (fun w9 hs => (hs.fewer 2 rfl)) rfl rfl rfl (by kernel_rfl) (by kernel_rfl) (by kernel_rfl) (fun _ _ _ h => h) rfl (q_fieldAddr 4 rfl Tryz.runUnderlying29 rfl Tryz.sizeOf26 (by decide) rfl) ?_
  refine ah_take 10 (fun w9 hs => (hs.fewer 2 rfl)) rfl rfl rfl (by kernel_rfl) (by kernel_rfl) (by kernel_rfl) (fun _ _ _ h => h) rfl (q_fieldAddr 5 rfl Tryz.runUnderlying26 rfl Tryz.sizeOf3 (by decide) rfl) ?_
  refine ah_one 11 rfl (by kernel_rfl) (fun hok3 hcl3 => ?_)
  refine al_store1 (i := 1) rfl rfl rfl rfl Tryz.sizeOf3 .k5 .k1 rfl ?_
  refine al_end (ah_last (by kernel_rfl) ?_)
  refine aq_then ?_
  refine ac_seq ?_
  refine ac_region ?_
  refine al_q (q_loadAll (i := 1) rfl rfl Tryz.isAgg29 Tryz.sizeOf29 rfl) rfl rfl rfl ?_
  refine al_storeAll (i := 0) rfl rfl rfl rfl Tryz.sizeOf29 rfl rfl .k0 rfl ?_
  refine al_end ?_
  refine aq_then ?_
  refine ac_ret ?_
  refine retR Tryz.results91 (.agg (i := 0) rfl rfl Tryz.isAgg29 Tryz.sizeOf29 rfl .nil) .one (fun w9 hs => ?_)
  exact ⟨⟨A1, A2, A3, A4, R.la, c1, R.lb, c2, R.lc, c3, R.ld, c4⟩, by unfold machCells mirM mirG; rw [← hzt], ⟨hs.newT2 (.tail _ (.tail _ (.tail _ (.tail _ (.tail _ (.head _)))))) N1, hs.newT2 (.tail _ (.tail _ (.tail _ (.tail _ (.head _))))) N2, hs.newT2 (.tail _ (.tail _ (.tail _ (.head _)))) N3, hs.newT2 (.tail _ (.tail _ (.head _))) N4⟩, ⟨rfl, rfl, rfl, rfl⟩, hs.below⟩

theorem newI_T {B : Nat} {w : World} {A : Option Addr} {n c : Nat} {zs : List Int} (h : NewI B w A n c zs) : NewT 1 intCells B w A n c zs := ⟨h.isT, fun b off e => h.new _ e, h.le, by have := h.cap; unfold maxLen at this; omega⟩
structure MirS where
  (k n b cap : Nat) (cs sp : List Value)
theorem turn_chunk (g : GridD) (c d k : Nat) (hc : g.nr = c) (hd : g.nz = d) (hk : k < d) (l : List Int) (hl : l.length = d * c) : (turnL g l).take (k * c + c) = (turnL g l).take (k * c) ++ (l.drop ((d - 1 - k) * c)).take c := by
  have h1 : k * c + c ≤ d * c := by rw [← Nat.succ_mul]; exact Nat.mul_le_mul_right c (by omega)
  have h2 : (d - 1 - k) * c + c ≤ d * c := by rw [← Nat.succ_mul]; exact Nat.mul_le_mul_right c (by omega)
  have hlen : (turnL g l).length = d * c := by rw [turn_length, hl]
  apply List.ext_getElem
  · simp only [List.length_append, List.length_take, List.length_drop]; omega
  · intro j j1 j2
    have hj : j < k * c + c := by simp only [List.length_take] at j1; omega
    have e1 : ((turnL g l).take (k * c + c))[j] = (turnL g l)[j]'(by omega) := by rw [List.getElem_take]
    rw [e1]
    rcases Nat.lt_or_ge j (k * c) with h | h
    · rw [List.getElem_append_left (by simp only [List.length_take]; omega), List.getElem_take]
    · rw [List.getElem_append_right (by simp only [List.length_take]; omega)]
      simp only [List.length_take, List.getElem_take, List.getElem_drop]
      have hs : sigma g j = (d - 1 - k) * c + (j - k * c) := by
        have := sigma_at g k (j - k * c) c d hc hd hk (by omega)
        rw [show k * c + (j - k * c) = j by omega] at this; exact this
      have e2 : (turnL g l)[j]'(by omega) = l[sigma g j]'(by rw [hs]; omega) := by
        have := turn_get g l j (by omega)
        rw [List.getElem?_eq_getElem (show j < (turnL g l).length by omega), List.getElem?_eq_getElem (show sigma g j < l.length by rw [hs]; omega)] at this
        exact this
      rw [e2]
      congr 1
      rw [hs]; omega

theorem mco_bl_apiCurrents_0_1_2 (a0 a1 a2 : Value) (ha0 : a0.oneCell' = true) (ha1 : a1.oneCell' = true) (ha2 : a2.oneCell' = true) : ∀ w, (Instr.build 34 #[(0, a0), (1, a1), (2, a2)]).run Tryz.prog w = .ok (.agg #[a0, a1, a2]) w := by
  have ea0 : a0.cells = #[a0] := cells_one ha0
  have ea1 : a1.cells = #[a1] := cells_one ha1
  have ea2 : a2.cells = #[a2] := cells_one ha2
  intro w; simp [Instr.build, Instr.fill, cells_agg, Tryz.runUnderlying34, Tryz.zeroValue34, Tryz.sizeOf32, ea0, ea1, ea2]

set_option maxRecDepth 100000 in
theorem mirrorCurrents_any (g : GridD) (Q : CurR) (C : CurD) (w : World) (hC : IsC w Q C) (hg : g.Fine) (hl : (C.plasma.length : Int) = g.nr * g.nz) (ka : Q.la ≤ 1000) (kb : Q.lb ≤ 1000) : Calls Tryz.prog 92 #[g.v, Q.v] w (fun e w' => ∃ Q' : CurR, e = .returned Q'.v ∧ NewCT w.heap.size w' Q' (mirC g C) ∧ (Q'.la = Q.la ∧ Q'.lb = Q.lb ∧ Q'.lc = Q.lc) ∧ Below w.heap.size w w') := by
  obtain ⟨c, d, hc, hd, hn⟩ := fine_nat hg
  have hcf := cells_fine hg
  have hn0 := hg.n0
  have hn1 := hg.n1
  have hk0 := hg.k0
  have hk1 := hg.k1
  have hln : C.plasma.length = d * c := by omega
  have hlc := hC.plasma.1
  have hlcc := hC.lc
  have hcc := hC.cc
  obtain ⟨b3, o3, hA3, hlt3, hget3⟩ := hC.plasma.2 (by omega)
  refine calls_ax (vs := [g.v, Q.v]) Tryz.func92 rfl rfl ?_
  refine ac_seq ?_
  refine ac_region ?_
  refine al_new (fun b => .pointer (some ⟨b, 0, none⟩)) (r_box rfl rfl) rfl rfl rfl ?_
  intro b1
  refine al_new (fun b => .pointer (some ⟨b, 0, none⟩)) (r_box rfl rfl) rfl rfl rfl ?_
  intro b2
  refine al_new (fun b => .pointer (some ⟨b, 0, none⟩)) (r_alloc Tryz.zeroValue34 rfl) rfl rfl rfl ?_
  intro b3
  refine al_end ?_
  refine aq_then ?_
  refine ac_seq ?_
  refine ac_region ?_
  refine al_q (q_fieldAddr 2 rfl Tryz.runUnderlying34 rfl Tryz.sizeOf32 (by decide) rfl) rfl rfl rfl ?_
  refine al_q (q_load (i := 1) rfl rfl rfl Tryz.isAgg32) rfl rfl rfl ?_
  refine al_q (q_lenS rfl Tryz.runUnderlying32) rfl rfl rfl ?_
  refine al_makeRoom (n := Q.lc) (z := (.int .i64 0)) (bytes := 8) rfl rfl rfl Tryz.underlying32 (by kernel_rfl) rfl (by omega) (by decide) rfl rfl ?_
  intro b4
  refine al_q (q_assign rfl) rfl rfl rfl ?_
  refine al_end ?_
  refine aq_then ?_
  refine ac_seq ?_
  refine ac_seq ?_
  refine ac_region ?_
  refine al_q (q_fieldAddr 3 rfl Tryz.runUnderlying26 rfl Tryz.sizeOf3 (by decide) rfl) rfl rfl rfl ?_
  refine al_q (q_load (i := 3) rfl rfl rfl Tryz.isAgg3) rfl rfl rfl ?_
  refine al_q (q_move rfl) rfl rfl rfl ?_
  refine al_end ?_
  refine aq_then ?_
  refine ac_block ?_
  refine ac_loop (β := MirS) (fun x => (x.k ≤ d ∧ x.n = x.k * c) ∧ (x.n ≤ x.cap ∧ x.cap ≤ 9223372036854775807) ∧ x.cs.length = x.n ∧ x.sp.length = x.cap - x.n ∧ x.cs = ((turnL g C.plasma).take x.n).map (Value.int .i64)) (fun x => [(2, (.pointer (some ⟨b1, 0, none⟩))), (3, (.pointer (some ⟨b2, 0, none⟩))), (4, (.pointer (some ⟨b3, 0, none⟩))), (5, (.slice (some ⟨x.b, 0, none⟩) x.n x.cap)), (13, (.int .i64 g.nz)), (14, (.int .i64 (x.k : Int)))]) (fun _ => _) (fun x => [(x.b, .cells (x.cs ++ x.sp)), (b3, _), (b2, _), (b1, _)]) (fun x => d - x.k) ⟨0, 0, b4, Q.lc, [], List.replicate Q.lc (.int .i64 0)⟩ ⟨⟨by simp, by simp⟩, ⟨by simp, by simp only; omega⟩, by simp, by simp, by simp⟩ ⟨rfl, rfl, rfl, rfl, rfl, rfl, trivial⟩ (fun w9 hs => hs) (fun x hF1 => ?_)
  obtain ⟨hxk, hxc, hxl, hxs, hcs⟩ := hF1
  have hxk2 := hxk.2
  refine ac_seq ?_
  refine ac_region ?_
  refine al_q (q_lss rfl rfl) rfl rfl rfl ?_
  refine al_end ?_
  refine aq_then ?_
  refine ac_seq ?_
  refine ac_cond rfl (fun h1 => ?_) (fun h1 => ?_)
  · have hk : x.k < d := by have := of_decide_eq_true h1; omega
    have hfr : (g.nz - 1 - (x.k : Int)) * g.nr = (((d - 1 - x.k) * c : Nat) : Int) := by
      rw [hc, hd, show (d : Int) - 1 - x.k = ((d - 1 - x.k : Nat) : Int) by omega, Int.natCast_mul]
    have hup : (d - 1 - x.k) * c + c ≤ d * c := by rw [← Nat.succ_mul]; exact Nat.mul_le_mul_right c (by omega)
    have hnx : x.k * c + c ≤ d * c := by rw [← Nat.succ_mul]; exact Nat.mul_le_mul_right c (by omega)
    refine ac_skip ?_
    refine aq_then ?_
    refine ac_seq ?_
    refine ac_block ?_
    refine ac_seq ?_
    refine ac_region ?_
    refine al_q (q_move rfl) rfl rfl rfl ?_
    refine al_q (q_assign rfl) rfl rfl rfl ?_
    refine al_end ?_
    refine aq_then ?_
    refine ac_seq ?_
    refine ac_region ?_
    refine al_q (q_fieldAddr 3 rfl Tryz.runUnderlying26 rfl Tryz.sizeOf3 (by decide) rfl) rfl rfl rfl ?_
    refine al_q (q_load (i := 3) rfl rfl rfl Tryz.isAgg3) rfl rfl rfl ?_
    refine al_q (q_sub rfl rfl (by omega)) rfl rfl rfl ?_
    refine al_q (q_move rfl) rfl rfl rfl ?_
    refine al_q (q_sub rfl rfl (by omega)) rfl rfl rfl ?_
    refine al_q (q_fieldAddr 2 rfl Tryz.runUnderlying26 rfl Tryz.sizeOf3 (by decide) rfl) rfl rfl rfl ?_
    refine al_q (q_load (i := 3) rfl rfl rfl Tryz.isAgg3) rfl rfl rfl ?_
    refine al_q (q_mul rfl rfl (by omega)) rfl rfl rfl ?_
    refine al_q (q_assign rfl) rfl rfl rfl ?_
    refine al_end ?_
    refine aq_then ?_
    refine ac_region ?_
    refine al_q (q_move rfl) rfl rfl rfl ?_
    refine al_q (q_fieldAddr 2 rfl Tryz.runUnderlying34 rfl Tryz.sizeOf32 (by decide) rfl) rfl rfl rfl ?_
    refine al_q (q_load (i := 2) rfl rfl rfl Tryz.isAgg32) rfl rfl rfl ?_
    refine al_q (q_move rfl) rfl rfl rfl ?_
    refine al_q (q_move rfl) rfl rfl rfl ?_
    refine al_q (q_fieldAddr 2 rfl Tryz.runUnderlying26 rfl Tryz.sizeOf3 (by decide) rfl) rfl rfl rfl ?_
    refine al_q (q_load (i := 3) rfl rfl rfl Tryz.isAgg3) rfl rfl rfl ?_
    refine al_q (q_add rfl rfl (by omega)) rfl rfl rfl ?_
    refine al_q (q_piece (lo := (d - 1 - x.k) * c) (hi := (d - 1 - x.k) * c + c) (n := c) (o3 + (d - 1 - x.k) * c * 1) hA3 rfl rfl rfl hfr (by omega) (by omega) (by omega) (by omega) (by omega) Tryz.underlying32 Tryz.sizeOf3 rfl) rfl rfl rfl ?_
    refine al_appendS (i := 0) (z := 1) (bytes := 8) (zv := (.int .i64 0)) (xs := x.cs) (sp := x.sp) (vs := (((C.plasma.drop ((d - 1 - x.k) * c)).take c).flatMap intCells)) rfl rfl (by omega) (by omega) (by omega) (by omega) rfl (Sor.list (enc := intCells) (zs := (C.plasma.drop ((d - 1 - x.k) * c)).take c) (fun _ => rfl) (fun _ => rfl) (by rw [List.length_take, List.length_drop]; omega) (fun w9 hs => by have h9 := hC.plasma.below hs.below; rw [hA3] at h9; exact IsT.piece h9 (by omega))) Tryz.underlying32 (by kernel_rfl) rfl (by omega) (by decide) rfl rfl (fun b5 c_b5 sp_b5 hc_b5 hk_b5 hl_b5 => ?_)
    refine ⟨_, .k0, ?_⟩
    refine al_q (q_assign rfl) rfl rfl rfl ?_
    refine al_end ?_
    refine aq_inN ?_
    refine aq_then ?_
    refine ac_region ?_
    refine al_q (q_add rfl rfl (by omega)) rfl rfl rfl ?_
    refine al_q (q_move rfl) rfl rfl rfl ?_
    refine al_end ?_
    refine aq_then ?_
    skip
    refine aq_round (⟨x.k + 1, x.n + c, b5, c_b5, x.cs ++ (((C.plasma.drop ((d - 1 - x.k) * c)).take c).flatMap intCells), sp_b5⟩) (by simp only; omega) ⟨⟨by simp only; omega, by simp only; rw [Nat.add_mul, Nat.one_mul]; omega⟩, ⟨hc_b5, hk_b5⟩, by simp only; rw [List.length_append, flat_len (z := 1) (fun _ => rfl), List.length_take, List.length_drop]; omega, by simp only; omega, by simp only; rw [hcs, hxk.2, turn_chunk g c d x.k hc hd hk _ hln, List.map_append, flat_int]⟩ ⟨rfl, rfl, rfl, rfl, rfl, rfl, trivial⟩ (fun w9 hs => hs)
  · have hkd : x.k = d := by have := of_decide_eq_false h1; omega
    refine ac_exit ?_
    refine aq_thenE ?_
    refine aq_thenE ?_
    refine aq_hit ?_
    refine aq_then ?_
    refine ac_seq ?_
    refine ac_draw 8 (by kernel_rfl) (by kernel_rfl) ?_
    refine ah_take 0 (fun w9 hs => hs) rfl rfl rfl (by kernel_rfl) (by kernel_rfl) (by kernel_rfl) (fun _ _ _ h => h) rfl (q_fieldAddr 0 rfl Tryz.runUnderlying34 rfl Tryz.sizeOf32 (by decide) rfl) ?_
    refine ah_take 1 (fun w9 hs => hs) rfl rfl rfl (by kernel_rfl) (by kernel_rfl) (by kernel_rfl) (fun _ _ _ h => h) rfl (q_load (i := 2) rfl rfl rfl Tryz.isAgg32) ?_
    refine ah_take 3 (fun w9 hs => hs) rfl rfl rfl (by kernel_rfl) (by kernel_rfl) (by kernel_rfl) (fun _ _ _ h => h) rfl (q_fieldAddr 1 rfl Tryz.runUnderlying34 rfl Tryz.sizeOf32 (by decide) rfl) ?_
    refine ah_take 4 (fun w9 hs => hs) rfl rfl rfl (by kernel_rfl) (by kernel_rfl) (by kernel_rfl) (fun _ _ _ h => h) rfl (q_load (i := 2) rfl rfl rfl Tryz.isAgg32) ?_
    refine ah_take 6 (fun w9 hs => hs) rfl rfl rfl (by kernel_rfl) (by kernel_rfl) (by kernel_rfl) (fun _ _ _ h => h) rfl (q_move rfl) ?_
    refine ah_one 2 rfl (by kernel_rfl) (fun hok1 hcl1 => ?_)
    refine al_call Tryz.call122 (.cons rfl .nil) rfl rfl (fun w1 hs1 => ?_)
    refine (clone_any Q.A Q.la Q.ca C.coils _ (hC.coils.below hs1.below) (by omega)).mono ?_
    rintro e u1 ⟨A1, c1, rfl, N1, hb_1⟩
    refine ⟨_, rfl, hb_1, ?_⟩
    clear hs1
    refine al_end (ah_back hok1 hcl1 (fun w9 hs => (hs.fewer 1 rfl)) ?_)
    refine ah_one 5 rfl (by kernel_rfl) (fun hok2 hcl2 => ?_)
    refine al_call Tryz.call122 (.cons rfl .nil) rfl rfl (fun w2 hs2 => ?_)
    refine (clone_any Q.B Q.lb Q.cb C.shells _ (hC.shells.below hs2.below) (by omega)).mono ?_
    rintro e u2 ⟨A2, c2, rfl, N2, hb_2⟩
    refine ⟨_, rfl, hb_2, ?_⟩
    clear hs2
    refine al_end (ah_back hok2 hcl2 (fun w9 hs => (hs.fewer 2 rfl)) ?_)
    refine ah_take 7 (fun w9 hs => (hs.fewer 2 rfl)) rfl rfl rfl (by kernel_rfl) (by kernel_rfl) (by kernel_rfl) (fun _ _ _ h => h) rfl (q_build (.cons rfl (.cons rfl (.cons rfl .nil))) (mco_bl_apiCurrents_0_1_2 _ _ _ rfl rfl rfl)) ?_
    refine ah_one 8 rfl (by kernel_rfl) (fun hok3 hcl3 => ?_)
    refine al_storeAll (i := 1) rfl rfl rfl rfl Tryz.sizeOf34 rfl rfl .k1 rfl ?_
    refine al_end (ah_last (by kernel_rfl) ?_)
    refine aq_then ?_
    refine ac_ret ?_
    refine retR Tryz.results92 (.agg (i := 1) rfl rfl Tryz.isAgg34 Tryz.sizeOf34 rfl .nil) .one (fun w9 hs => ?_)
    have hxn : x.n = Q.lc := by rw [hxk.2, hkd]; omega
    exact ⟨⟨A1, A2, some ⟨x.b, 0, none⟩, Q.la, c1, Q.lb, c2, x.n, x.cap⟩, rfl, ⟨hs.newT2 (.tail _ (.head _)) (newI_T N1), hs.newT2 (.head _) (newI_T N2), ⟨isT_box (n := 1) (enc := intCells) (zs := turnL g C.plasma) (fun _ => rfl) (hs.at 0 rfl) (by rw [hcs, List.take_of_length_le (by rw [turn_length]; omega), flat_int]) (by rw [turn_length]; show _ = x.n; omega), fun b off e => hs.new 0 rfl b off e, (show x.n ≤ x.cap by omega), (show x.cap ≤ 9223372036854775807 by omega)⟩⟩, ⟨rfl, rfl, hxn⟩, hs.below⟩

theorem mco_bl_apiMachine_ : ∀ w, (Instr.build 29 #[]).run Tryz.prog w = .ok (.agg #[(.string { data := #[] }), (.slice none 0 0), (.slice none 0 0), (.slice none 0 0), (.int .i64 0), (.int .i64 0), (.int .i64 0), (.int .i64 0), (.int .i64 0), (.slice none 0 0)]) w := by
  intro w; simp [Instr.build, Instr.fill, cells_agg, Tryz.runUnderlying29, Tryz.zeroValue29, Tryz.sizeOf9, Tryz.sizeOf22, Tryz.sizeOf23, Tryz.sizeOf24, Tryz.sizeOf26, Tryz.sizeOf27]

theorem mco_bl_apiCurrents_ : ∀ w, (Instr.build 34 #[]).run Tryz.prog w = .ok (.agg #[(.slice none 0 0), (.slice none 0 0), (.slice none 0 0)]) w := by
  intro w; simp [Instr.build, Instr.fill, cells_agg, Tryz.runUnderlying34, Tryz.zeroValue34, Tryz.sizeOf32]

set_option maxRecDepth 100000 in
theorem mirror_bad (R : MachR) (M : MachD) (Q : CurR) (C : CurD) (w : World) (hM : IsM w R M) (hC : IsC w Q C) (hv : validC M C = false) : Calls Tryz.prog 53 #[(.agg (machCells R M)), Q.v] w (Ret (.tuple #[.agg #[.string ⟨#[]⟩, .slice none 0 0, .slice none 0 0, .slice none 0 0, .int .i64 0, .int .i64 0, .int .i64 0, .int .i64 0, .int .i64 0, .slice none 0 0], .agg #[.slice none 0 0, .slice none 0 0, .slice none 0 0], .int .i64 1]) w) := by
  refine calls_ax (vs := [(.agg (machCells R M)), Q.v]) Tryz.func53 rfl rfl ?_
  refine ac_seq ?_
  refine ac_region ?_
  refine al_new (fun b => .pointer (some ⟨b, 0, none⟩)) (r_box rfl rfl) rfl rfl rfl ?_
  intro b1
  refine al_new (fun b => .pointer (some ⟨b, 0, none⟩)) (r_box rfl rfl) rfl rfl rfl ?_
  intro b2
  refine al_new (fun b => .pointer (some ⟨b, 0, none⟩)) (r_alloc Tryz.zeroValue29 rfl) rfl rfl rfl ?_
  intro b3
  refine al_new (fun b => .pointer (some ⟨b, 0, none⟩)) (r_alloc Tryz.zeroValue34 rfl) rfl rfl rfl ?_
  intro b4
  refine al_q (q_assign rfl) rfl rfl rfl ?_
  refine al_end ?_
  refine aq_then ?_
  refine ac_seq ?_
  refine ac_seq ?_
  refine ac_region ?_
  refine al_q (q_loadAll (i := 3) rfl rfl Tryz.isAgg29 Tryz.sizeOf29 rfl) rfl rfl rfl ?_
  refine al_q (q_loadAll (i := 2) rfl rfl Tryz.isAgg34 Tryz.sizeOf34 rfl) rfl rfl rfl ?_
  refine al_call Tryz.call38 (.cons rfl (.cons rfl .nil)) rfl rfl (fun w1 hs1 => ?_)
  refine (validCurrents_any R M Q C _ (hM.below hs1.below) (hC.below hs1.below)).mono ?_
  rintro e u1 ⟨rfl, hb_1⟩
  refine ⟨_, rfl, hb_1, ?_⟩
  clear hs1
  refine al_q (q_not rfl) rfl rfl rfl ?_
  refine al_end ?_
  refine aq_then ?_
  refine ac_cond rfl (fun h1 => ?_) (fun h1 => ?_)
  · refine ac_seq ?_
    refine ac_region ?_
    refine al_q (q_build .nil (mco_bl_apiMachine_)) rfl rfl rfl ?_
    refine al_q (q_build .nil (mco_bl_apiCurrents_)) rfl rfl rfl ?_
    refine al_storeAll (i := 1) rfl rfl rfl rfl Tryz.sizeOf29 rfl rfl .k1 rfl ?_
    refine al_storeAll (i := 0) rfl rfl rfl rfl Tryz.sizeOf34 rfl rfl .k0 rfl ?_
    refine al_q (q_assign rfl) rfl rfl rfl ?_
    refine al_end ?_
    refine aq_then ?_
    refine ac_ret ?_
    refine aq_thenR ?_
    refine retR Tryz.results53 (.agg (i := 1) rfl rfl Tryz.isAgg29 Tryz.sizeOf29 rfl (.agg (i := 0) rfl rfl Tryz.isAgg34 Tryz.sizeOf34 rfl (.tmp rfl .nil))) .two (fun w9 hs => ?_)
    exact ⟨rfl, hs.below⟩
  · simp [hv] at h1

set_option maxRecDepth 100000 in
theorem mirror_ok (R : MachR) (M : MachD) (Q : CurR) (C : CurD) (w : World) (hM : IsM w R M) (hC : IsC w Q C) (hf : Fit2 M C) : Calls Tryz.prog 53 #[(.agg (machCells R M)), Q.v] w (fun e w' => ∃ (R' : MachR) (Q' : CurR), e = .returned (.tuple #[.agg (machCells R' (mirM M)), Q'.v, .int .i64 0]) ∧ NewMT w.heap.size w' R' (mirM M) ∧ NewCT w.heap.size w' Q' (mirC M.grid C) ∧ (R'.la = R.la ∧ R'.lb = R.lb ∧ R'.lc = R.lc ∧ R'.ld = R.ld) ∧ (Q'.la = Q.la ∧ Q'.lb = Q.lb ∧ Q'.lc = Q.lc) ∧ Below w.heap.size w w') := by
  have hs0 := sound_of hf.check
  have e1 := hC.coils.1
  have e2 := hC.shells.1
  have e3 := hf.coils.1
  have e4 := hf.shells.1
  have e5 := hs0.coils.1
  have e6 := hs0.shells.1
  refine calls_ax (vs := [(.agg (machCells R M)), Q.v]) Tryz.func53 rfl rfl ?_
  refine ac_seq ?_
  refine ac_region ?_
  refine al_new (fun b => .pointer (some ⟨b, 0, none⟩)) (r_box rfl rfl) rfl rfl rfl ?_
  intro b1
  refine al_new (fun b => .pointer (some ⟨b, 0, none⟩)) (r_box rfl rfl) rfl rfl rfl ?_
  intro b2
  refine al_new (fun b => .pointer (some ⟨b, 0, none⟩)) (r_alloc Tryz.zeroValue29 rfl) rfl rfl rfl ?_
  intro b3
  refine al_new (fun b => .pointer (some ⟨b, 0, none⟩)) (r_alloc Tryz.zeroValue34 rfl) rfl rfl rfl ?_
  intro b4
  refine al_q (q_assign rfl) rfl rfl rfl ?_
  refine al_end ?_
  refine aq_then ?_
  refine ac_seq ?_
  refine ac_seq ?_
  refine ac_region ?_
  refine al_q (q_loadAll (i := 3) rfl rfl Tryz.isAgg29 Tryz.sizeOf29 rfl) rfl rfl rfl ?_
  refine al_q (q_loadAll (i := 2) rfl rfl Tryz.isAgg34 Tryz.sizeOf34 rfl) rfl rfl rfl ?_
  refine al_call Tryz.call38 (.cons rfl (.cons rfl .nil)) rfl rfl (fun w1 hs1 => ?_)
  refine (validCurrents_any R M Q C _ (hM.below hs1.below) (hC.below hs1.below)).mono ?_
  rintro e u1 ⟨rfl, hb_1⟩
  refine ⟨_, rfl, hb_1, ?_⟩
  clear hs1
  refine al_q (q_not rfl) rfl rfl rfl ?_
  refine al_end ?_
  refine aq_then ?_
  refine ac_cond rfl (fun h1 => ?_) (fun h1 => ?_)
  · simp [fit2_iff.2 hf] at h1
  · refine ac_skip ?_
    refine aq_then ?_
    refine ac_seq ?_
    refine ac_drawK 2 8 rfl (by kernel_rfl) (by kernel_rfl) ?_
    refine ah_take 0 (fun w9 hs => (hs.tail 2 rfl)) rfl rfl rfl (by kernel_rfl) (by kernel_rfl) (by kernel_rfl) (fun _ _ _ h => h) rfl (q_loadAll (i := 1) rfl rfl Tryz.isAgg29 Tryz.sizeOf29 rfl) ?_
    refine ah_take 2 (fun w9 hs => (hs.tail 2 rfl)) rfl rfl rfl (by kernel_rfl) (by kernel_rfl) (by kernel_rfl) (fun _ _ _ h => h) rfl (q_fieldAddr 4 rfl Tryz.runUnderlying29 rfl Tryz.sizeOf26 (by decide) rfl) ?_
    refine ah_take 3 (fun w9 hs => (hs.tail 2 rfl)) rfl rfl rfl (by kernel_rfl) (by kernel_rfl) (by kernel_rfl) (fun _ _ _ h => h) rfl (q_loadSub (i := 1) rfl rfl Tryz.isAgg26 Tryz.sizeOf26 .k4 .k5) ?_
    refine ah_take 4 (fun w9 hs => (hs.tail 2 rfl)) rfl rfl rfl (by kernel_rfl) (by kernel_rfl) (by kernel_rfl) (fun _ _ _ h => h) rfl (q_loadAll (i := 0) rfl rfl Tryz.isAgg34 Tryz.sizeOf34 rfl) ?_
    refine ah_one 1 rfl (by kernel_rfl) (fun hok1 hcl1 => ?_)
    refine al_call Tryz.call91 (.cons rfl .nil) rfl rfl (fun w2 hs2 => ?_)
    refine (mirrorMachine_any R M _ (hM.below hs2.below) hf.check).mono ?_
    rintro e u2 ⟨R1, rfl, NM, hRl, hb_2⟩
    refine ⟨_, rfl, hb_2, ?_⟩
    clear hs2
    refine al_end (ah_back hok1 hcl1 (fun w9 hs => ((hs.fewer 1 rfl).tail 2 rfl)) ?_)
    refine ah_one 5 rfl (by kernel_rfl) (fun hok2 hcl2 => ?_)
    refine al_call Tryz.call92 (.cons rfl (.cons rfl .nil)) rfl rfl (fun w3 hs3 => ?_)
    refine (mirrorCurrents_any M.grid Q C _ (hC.below hs3.below) hs0.grid hf.plasma.1 (by omega) (by omega)).mono ?_
    rintro e u3 ⟨Q1, rfl, NC, hQl, hb_3⟩
    refine ⟨_, rfl, hb_3, ?_⟩
    clear hs3
    refine al_end (ah_back hok2 hcl2 (fun w9 hs => ((hs.fewer 2 rfl).tail 2 rfl)) ?_)
    refine ah_one 6 rfl (by kernel_rfl) (fun hok3 hcl3 => ?_)
    refine al_storeAll (i := 1) rfl rfl rfl rfl Tryz.sizeOf29 rfl rfl .k1 rfl ?_
    refine al_end (ah_back hok3 hcl3 (fun w9 hs => ((hs.fewer 2 rfl).tail 2 rfl)) ?_)
    refine ah_one 7 rfl (by kernel_rfl) (fun hok4 hcl4 => ?_)
    refine al_storeAll (i := 0) rfl rfl rfl rfl Tryz.sizeOf34 rfl rfl .k0 rfl ?_
    refine al_end (ah_back hok4 hcl4 (fun w9 hs => ((hs.fewer 2 rfl).tail 2 rfl)) ?_)
    refine ah_one 8 rfl (by kernel_rfl) (fun hok5 hcl5 => ?_)
    refine al_q (q_assign rfl) rfl rfl rfl ?_
    refine al_end (ah_last (by kernel_rfl) ?_)
    refine aq_then ?_
    refine ac_ret ?_
    refine retR Tryz.results53 (.agg (i := 1) rfl rfl Tryz.isAgg29 Tryz.sizeOf29 rfl (.agg (i := 0) rfl rfl Tryz.isAgg34 Tryz.sizeOf34 rfl (.tmp rfl .nil))) .two (fun w9 hs => ?_)
    exact ⟨R1, Q1, rfl, ⟨hs.newT2 (.tail _ (.head _)) NM.a, hs.newT2 (.tail _ (.head _)) NM.b, hs.newT2 (.tail _ (.head _)) NM.c, hs.newT2 (.tail _ (.head _)) NM.d⟩, ⟨hs.newT2 (.head _) NC.a, hs.newT2 (.head _) NC.b, hs.newT2 (.head _) NC.c⟩, hRl, hQl, hs.below⟩

end Go.Proofs.YtjjajleiladbhaaGreatDoor
end
