import Derived.Test.YtapldonpflgnfaaGreatDoorKAP
import Derived.Test.YtapldonpflgnfaaGreatDoorKAY
import Derived.Test.YtapldonpflgnfaaGreatDoorKBC
import Derived.Test.YtapldonpflgnfaaGreatDoorKBD
import Derived.Test.YtapldonpflgnfaaGreatDoorKBF
namespace Go.Proofs.YtapldonpflgnfaaGreatDoor
set_option linter.unusedVariables false
set_option linter.unusedSimpArgs false
section
open Go.RowKit Go.Shelf
set_option maxRecDepth 100000 in
set_option maxHeartbeats 8000000 in
theorem claimsIn_any (R : MachR) (M : MachD) (P F : Option Addr) (np cp nf cf : Nat) (bs : List Int) (zs : List SpanD) (cell : Int) (w : World) (hM : IsM w R M) (hB : IsT 1 intCells w P np bs) (hF : IsT 2 SpanD.cells w F nf zs) (hc : checkC M = 0) (hcell : wthn cell 0 (M.grid.nr * M.grid.nz - 1) = true)
    (hnb : np = R.ld) (hnf : nf = R.ld) (hbs : ∀ b ∈ bs, -50000000000000000 ≤ b ∧ b ≤ 50000000000000000) (hzs : ∀ s ∈ zs, vld s.lo s.hi = true) :
    Calls Tryz.prog 39 #[.agg (machCells R M), .slice P np cp, .slice F nf cf, .int .i64 cell] w (MadeAt R.ld ((clL M bs zs cell).flatMap SpanD.cells) w) := by
  have hl := hM.sensors.1
  have hb1 := hB.1
  have hf1 := hF.1
  have hld : R.ld ≤ 1000 := by have := (sound_of hc).sensors.1; omega
  have hlc : 1 ≤ R.lc := by have := hM.limits.1; have := limits_pos hc; omega
  have hcl : cellL M cell = (cellR M.grid cell, cellZ M.grid cell, 0) := by
    unfold cellL
    rw [if_pos hc, if_pos hcell]
  have HCE := Lib.hid (fun W (hb : Below w.heap.size w W) => (by have h := mcell_any R M cell W (hM.below hb); rw [hcl] at h; exact h : Calls Tryz.prog 64 #[.agg (machCells R M), .int .i64 cell] W (Ret (.tuple #[.agg #[.int .i64 (cellR M.grid cell), .int .i64 (cellZ M.grid cell)], .int .i64 0]) W)))
  obtain ⟨rf, hrf⟩ : ∃ rf : Nat → Int, ∀ k : Nat, (respL M (k : Int) cell).1 = rf k := ⟨fun k => (respL M (k : Int) cell).1, fun _ => rfl⟩
  have HRA := Lib.hid (fun (k : Nat) (hk : k < R.ld) W (hb : Below w.heap.size w W) => (by
    obtain ⟨x, hx⟩ : ∃ x, M.sensors[k]? = some x := ⟨_, List.getElem?_eq_getElem (by omega)⟩
    have h := respAt_any R M k x (cellR M.grid cell) (cellZ M.grid cell) W (hM.below hb) hx hlc
    have e : (exactL (aloneM M x (cellR M.grid cell) (cellZ M.grid cell)) oneC4 0).1 = rf k := by
      have c := wthn_iff.1 hcell
      rw [alone_exact hc (List.mem_of_getElem? hx) (cell_near hc (by omega) (by omega)), ← hrf, respL_val hc (wthn_iff.2 (by omega)) hcell (by simpa using hx)]
    rw [e] at h
    exact h : Calls Tryz.prog 65 #[.agg (machCells R M), .int .i64 (k : Int), .agg #[.int .i64 (cellR M.grid cell), .int .i64 (cellZ M.grid cell)]] W (Ret (.int .i64 (rf k)) W)))
  have HRB : Hid (∀ k : Nat, -250000 ≤ rf k ∧ rf k ≤ 250000) := Lib.hid (fun k => by rw [← hrf]; exact respL_bd M k cell)
  have HT : Hid (∀ (k : Nat) (s : SpanD) (b : Int), zs[k]? = some s → bs[k]? = some b → ((clL M bs zs cell).flatMap SpanD.cells)[k * 2]? = some (.int .i64 (allowL s.lo s.hi b (rf k)).1) ∧ ((clL M bs zs cell).flatMap SpanD.cells)[k * 2 + 1]? = some (.int .i64 (allowL s.lo s.hi b (rf k)).2)) := Lib.hid (fun k s b h1 h2 => by
    have hk : k < M.sensors.length := by have := (List.getElem?_eq_some_iff.1 h1).1; omega
    have h := flat2 _ k _ (clL_get (M := M) (bs := bs) (zs := zs) (cell := cell) hk)
    unfold clF at h
    simp only [List.getD_eq_getElem?_getD, h1, h2, Option.getD_some, hrf] at h
    exact h)
  have HL : Hid (((clL M bs zs cell).flatMap SpanD.cells).length = R.ld * 2) := Lib.hid (by rw [flat2_len, clL_len, hl])
  have HBs := Lib.hid hbs
  have HZs := Lib.hid hzs
  have HIB := Lib.hid hB
  have HIF := Lib.hid hF
  subst hnb hnf
  clear hM hB hF hc hcell hbs hzs hcl hrf hl hlc
  generalize (clL M bs zs cell).flatMap SpanD.cells = T at *
  generalize cellR M.grid cell = X at *
  generalize cellZ M.grid cell = Y at *
  obtain ⟨A, B, Cl, D, la, ca, lb, cb, lc, cl, ld, cd⟩ := R
  obtain ⟨name, coils, shells, limits, ⟨r, z, nr, nz, step⟩, sensors⟩ := M
  dsimp only at *
  have HCE2 := Lib.hid (show ∀ W, Below w.heap.size w W → Calls Tryz.prog 64 #[.agg #[.string name, .slice A la ca, .slice B lb cb, .slice Cl lc cl, .int .i64 r, .int .i64 z, .int .i64 nr, .int .i64 nz, .int .i64 step, .slice D ld cd], .int .i64 cell] W (Ret (.tuple #[.agg #[.int .i64 X, .int .i64 Y], .int .i64 0]) W) from HCE.out)
  have HRA2 := Lib.hid (show ∀ k : Nat, k < ld → ∀ W, Below w.heap.size w W → Calls Tryz.prog 65 #[.agg #[.string name, .slice A la ca, .slice B lb cb, .slice Cl lc cl, .int .i64 r, .int .i64 z, .int .i64 nr, .int .i64 nz, .int .i64 step, .slice D ld cd], .int .i64 k, .agg #[.int .i64 X, .int .i64 Y]] W (Ret (.int .i64 (rf k)) W) from HRA.out)
  clear HCE HRA
  have hmk := run_make_span 98 Tryz.underlying98 ld (by omega)
  show Calls Tryz.prog 39 #[.agg #[.string name, .slice A la ca, .slice B lb cb, .slice Cl lc cl, .int .i64 r, .int .i64 z, .int .i64 nr, .int .i64 nz, .int .i64 step, .slice D ld cd], .slice P ld cp, .slice F ld cf, .int .i64 cell] w _
  go_enter Tryz.func39, Tryz.ntmps39
  go_upto_region 1 with (fail)
  have Fm : Hid (RowL (w.heap.size) [.string name, .slice A la ca, .slice B lb cb, .slice Cl lc cl, .int .i64 r, .int .i64 z, .int .i64 nr, .int .i64 nz, .int .i64 step, .slice D ld cd] (w.alloc (.cells #[.string name, .slice A la ca, .slice B lb cb, .slice Cl lc cl, .int .i64 r, .int .i64 z, .int .i64 nr, .int .i64 nz, .int .i64 step, .slice D ld cd] 29))) := Lib.hid (by have h := RowL.new w #[.string name, .slice A la ca, .slice B lb cb, .slice Cl lc cl, .int .i64 r, .int .i64 z, .int .i64 nr, .int .i64 nz, .int .i64 step, .slice D ld cd] 29; (try simp only [World.size_alloc] at h); exact h)
  have hB0 : Below w.heap.size w (w.alloc (.cells #[.string name, .slice A la ca, .slice B lb cb, .slice Cl lc cl, .int .i64 r, .int .i64 z, .int .i64 nr, .int .i64 nz, .int .i64 step, .slice D ld cd] 29)) := by (with_reducible repeat first | exact Below.refl _ _ | assumption | ((first | refine Below.setCell ?_ ?_ _ | refine Below.alloc ?_ ?_ _); rotate_left; exact (by first | omega | (simp; done) | (simp; omega))) | refine Below.drew ?_ | refine Below_drewN ?_ _)
  have sW0 : w.heap.size < (w.alloc (.cells #[.string name, .slice A la ca, .slice B lb cb, .slice Cl lc cl, .int .i64 r, .int .i64 z, .int .i64 nr, .int .i64 nz, .int .i64 step, .slice D ld cd] 29)).heap.size := by simp only [World.size_alloc]; omega
  obtain ⟨W0, hW0⟩ : ∃ W, (w.alloc (.cells #[.string name, .slice A la ca, .slice B lb cb, .slice Cl lc cl, .int .i64 r, .int .i64 z, .int .i64 nr, .int .i64 nz, .int .i64 step, .slice D ld cd] 29)) = W := ⟨_, rfl⟩
  rw [hW0] at Fm hB0 sW0 ⊢
  clear hW0
  have m0 := Fm.out.cell 0 (.string name) rfl
  have m1 := Fm.out.cell 1 (.slice A la ca) rfl
  have m2 := Fm.out.cell 2 (.slice B lb cb) rfl
  have m3 := Fm.out.cell 3 (.slice Cl lc cl) rfl
  have m4 := Fm.out.cell 4 (.int .i64 r) rfl
  have m5 := Fm.out.cell 5 (.int .i64 z) rfl
  have m6 := Fm.out.cell 6 (.int .i64 nr) rfl
  have m7 := Fm.out.cell 7 (.int .i64 nz) rfl
  have m8 := Fm.out.cell 8 (.int .i64 step) rfl
  have m9 := Fm.out.cell 9 (.slice D ld cd) rfl
  go_wp2_with fail
  refine (HCE2.out _ hB0).mono ?_
  rintro e w1 ⟨rfl, hb⟩
  clear m0 m1 m2 m3 m4 m5 m6 m7 m8 m9
  have Gm := Lib.hid (Fm.out.below hb)
  clear Fm
  have Fm := Lib.hid Gm.out
  clear Gm
  have m0 := Fm.out.cell 0 (.string name) rfl
  have m1 := Fm.out.cell 1 (.slice A la ca) rfl
  have m2 := Fm.out.cell 2 (.slice B lb cb) rfl
  have m3 := Fm.out.cell 3 (.slice Cl lc cl) rfl
  have m4 := Fm.out.cell 4 (.int .i64 r) rfl
  have m5 := Fm.out.cell 5 (.int .i64 z) rfl
  have m6 := Fm.out.cell 6 (.int .i64 nr) rfl
  have m7 := Fm.out.cell 7 (.int .i64 nz) rfl
  have m8 := Fm.out.cell 8 (.int .i64 step) rfl
  have m9 := Fm.out.cell 9 (.slice D ld cd) rfl
  have hB1 := hB0.trans (hb.mono hB0.size)
  have hz1 : w.heap.size < w1.heap.size := Nat.lt_of_lt_of_le sW0 hb.size
  clear hb hB0 sW0 HCE2
  go_upto_region 2 with (fail)
  have Fq : Hid (RowL (w1.heap.size) [.int .i64 X, .int .i64 Y] (w1.alloc (.cells #[.int .i64 X, .int .i64 Y] 79))) := Lib.hid (by have h := RowL.new w1 #[.int .i64 X, .int .i64 Y] 79; (try simp only [World.size_alloc] at h); exact h)
  have hb2 : Below w1.heap.size w1 (w1.alloc (.cells #[.int .i64 X, .int .i64 Y] 79)) := by (with_reducible repeat first | exact Below.refl _ _ | assumption | ((first | refine Below.setCell ?_ ?_ _ | refine Below.alloc ?_ ?_ _); rotate_left; exact (by first | omega | (simp; done) | (simp; omega))) | refine Below.drew ?_ | refine Below_drewN ?_ _)
  have sW2 : w1.heap.size < (w1.alloc (.cells #[.int .i64 X, .int .i64 Y] 79)).heap.size := by simp only [World.size_alloc]; omega
  obtain ⟨W2, hW2⟩ : ∃ W, (w1.alloc (.cells #[.int .i64 X, .int .i64 Y] 79)) = W := ⟨_, rfl⟩
  rw [hW2] at Fq hb2 sW2 ⊢
  clear hW2
  clear m0 m1 m2 m3 m4 m5 m6 m7 m8 m9
  have Gm := Lib.hid (Fm.out.below hb2)
  clear Fm
  have Fm := Lib.hid Gm.out
  clear Gm
  have m0 := Fm.out.cell 0 (.string name) rfl
  have m1 := Fm.out.cell 1 (.slice A la ca) rfl
  have m2 := Fm.out.cell 2 (.slice B lb cb) rfl
  have m3 := Fm.out.cell 3 (.slice Cl lc cl) rfl
  have m4 := Fm.out.cell 4 (.int .i64 r) rfl
  have m5 := Fm.out.cell 5 (.int .i64 z) rfl
  have m6 := Fm.out.cell 6 (.int .i64 nr) rfl
  have m7 := Fm.out.cell 7 (.int .i64 nz) rfl
  have m8 := Fm.out.cell 8 (.int .i64 step) rfl
  have m9 := Fm.out.cell 9 (.slice D ld cd) rfl
  have q0 := Fq.out.cell 0 (.int .i64 X) rfl
  have q1 := Fq.out.cell 1 (.int .i64 Y) rfl
  have hB2 := hB1.trans (hb2.mono hB1.size)
  clear hb2
  have hz2 : w.heap.size < W2.heap.size := by omega
  go_upto_region 3 with (fail)
  have hR0 : Hid (RowL W2.heap.size (T.take (0 * 2) ++ List.replicate (ld * 2 - 0 * 2) (.int .i64 0)) (W2.alloc (.cells (madeCells #[.int .i64 0, .int .i64 0] (ld * 2)) 41))) := Lib.hid (by rw [Nat.zero_mul, fill_none]; exact RowL.made2 W2 _ _ _)
  have hb1 : Below W2.heap.size W2 (W2.alloc (.cells (madeCells #[.int .i64 0, .int .i64 0] (ld * 2)) 41)) := by (with_reducible repeat first | exact Below.refl _ _ | assumption | ((first | refine Below.setCell ?_ ?_ _ | refine Below.alloc ?_ ?_ _); rotate_left; exact (by first | omega | (simp; done) | (simp; omega))) | refine Below.drew ?_ | refine Below_drewN ?_ _)
  obtain ⟨W3, hW3⟩ : ∃ W, W2.alloc (.cells (madeCells #[.int .i64 0, .int .i64 0] (ld * 2)) 41) = W := ⟨_, rfl⟩
  rw [hW3] at hR0 hb1 ⊢
  clear hW3 hmk m0 m1 m2 m3 m4 m5 m6 m7 m8 m9 q0 q1
  go_wp2_with fail
  go_loopw [25] (fun i wr => ∃ j : Nat, j ≤ ld ∧ i = .int .i64 j ∧ Hid (RowL W2.heap.size (T.take (j * 2) ++ List.replicate (ld * 2 - j * 2) (.int .i64 0)) wr) ∧ Below W2.heap.size W2 wr) (fun i _ => ld - (intOf i).toNat)
  case atStart => exact ⟨0, Nat.zero_le _, rfl, hR0, hb1⟩
  case round =>
    obtain ⟨j, hj, rfl, hR, hB⟩ := hrel
    have sz := hB.size
    have hBw := hB2.trans (hB.mono hB2.size)
    by_cases hlt : j < ld
    · obtain ⟨-, hcf⟩ := HIF.out.below hBw
      obtain ⟨bf, of, rfl, hbf, hcf⟩ := hcf (by omega)
      obtain ⟨-, hcb⟩ := HIB.out.below hBw
      obtain ⟨bb, ob, rfl, hbb, hcb⟩ := hcb (by omega)
      have hbf1 : bf < w.heap.size := by obtain ⟨b9, o9, e9, h9, -⟩ := HIF.out.2 (by omega); injection e9 with e9; injection e9 with e9; omega
      have hbb1 : bb < w.heap.size := by obtain ⟨b9, o9, e9, h9, -⟩ := HIB.out.2 (by omega); injection e9 with e9; injection e9 with e9; omega
      obtain ⟨s, hs⟩ : ∃ s, zs[j]? = some s := ⟨_, List.getElem?_eq_getElem (by omega)⟩
      obtain ⟨xb, hx⟩ : ∃ b, bs[j]? = some b := ⟨_, List.getElem?_eq_getElem (by omega)⟩
      have e0 : wr.cell? ⟨bf, of + j * 2, none⟩ = some (.int .i64 s.lo) := by have h := hcf j s hs 0 _ rfl; simpa using h
      have e1 : wr.cell? ⟨bf, of + j * 2 + 1, none⟩ = some (.int .i64 s.hi) := by have h := hcf j s hs 1 _ rfl; simpa using h
      have e2 : wr.cell? ⟨bb, ob + j, none⟩ = some (.int .i64 xb) := by have h := hcb j xb hx 0 _ rfl; simpa using h
      have hT := HT.out j s xb hs hx
      have hv := vld_iff.1 (HZs.out s (List.mem_of_getElem? hs))
      have hxb := HBs.out xb (List.mem_of_getElem? hx)
      have hr := HRB.out j
      have HR1 := Lib.hid (HRA2.out j hlt)
      obtain ⟨xl, xh⟩ := s
      dsimp only at e0 e1 hT hv
      have HA := Lib.hid (fun W => allowed_any xl xh xb (rf j) W (by omega) (by omega) (by omega) (by omega) (by omega) (by omega) (by omega) (by omega))
      generalize rf j = G at *
      generalize allowL xl xh xb G = U at *
      obtain ⟨u, v⟩ := U
      have HTj := Lib.hid hT
      clear hcf hcb hs hx hT hv hxb hr
      dsimp only at HA HTj
      have r0 := hR.out.cell (j * 2) (.int .i64 0) (fill_get T (ld * 2) (j * 2) _ HL.out (by omega))
      have rf0 := hR.out.mark (j * 2) (by rw [fill_len T (ld * 2) (j * 2) _ HL.out (by omega)]; omega)
      have r1 : wr.cell? ⟨W2.heap.size, j * 2 + 1, none⟩ = some (.int .i64 0) := hR.out.cell (j * 2 + 1) (.int .i64 0) (by
        have h1 : (T.take (j * 2)).length = j * 2 := by rw [List.length_take, HL.out]; omega
        rw [List.getElem?_append_right (by omega), h1, List.getElem?_replicate, if_pos (by omega)])
      have rf1 := hR.out.mark (j * 2 + 1) (by rw [fill_len T (ld * 2) (j * 2) _ HL.out (by omega)]; omega)
      have hpl := hR.out.lt
      have m0 := (Fm.out.below hB).cell 0 (.string name) rfl
      have m1 := (Fm.out.below hB).cell 1 (.slice A la ca) rfl
      have m2 := (Fm.out.below hB).cell 2 (.slice B lb cb) rfl
      have m3 := (Fm.out.below hB).cell 3 (.slice Cl lc cl) rfl
      have m4 := (Fm.out.below hB).cell 4 (.int .i64 r) rfl
      have m5 := (Fm.out.below hB).cell 5 (.int .i64 z) rfl
      have m6 := (Fm.out.below hB).cell 6 (.int .i64 nr) rfl
      have m7 := (Fm.out.below hB).cell 7 (.int .i64 nz) rfl
      have m8 := (Fm.out.below hB).cell 8 (.int .i64 step) rfl
      have m9 := (Fm.out.below hB).cell 9 (.slice D ld cd) rfl
      have q0 := (Fq.out.below hB).cell 0 (.int .i64 X) rfl
      have q1 := (Fq.out.below hB).cell 1 (.int .i64 Y) rfl
      have jn : ((j : Int)).toNat = j := by omega
      have j0 : (0 : Int) ≤ j := by omega
      have g1 : w1.heap.size < W2.heap.size := sW2
      clear hR0 hb1
      go_wp2_with fail
      have HS : Hid (∀ w' : World, Reg (W2.heap.size) (wr) w' → (Reg (W2.heap.size) (wr) w' ∧ w'.cell? ⟨w.heap.size, 0, none⟩ = some (.string name) ∧ w'.cell? ⟨w.heap.size, 1, none⟩ = some (.slice A la ca) ∧ w'.cell? ⟨w.heap.size, 2, none⟩ = some (.slice B lb cb) ∧ w'.cell? ⟨w.heap.size, 3, none⟩ = some (.slice Cl lc cl) ∧ w'.cell? ⟨w.heap.size, 4, none⟩ = some (.int .i64 r) ∧ w'.cell? ⟨w.heap.size, 5, none⟩ = some (.int .i64 z) ∧ w'.cell? ⟨w.heap.size, 6, none⟩ = some (.int .i64 nr) ∧ w'.cell? ⟨w.heap.size, 7, none⟩ = some (.int .i64 nz) ∧ w'.cell? ⟨w.heap.size, 8, none⟩ = some (.int .i64 step) ∧ w'.cell? ⟨w.heap.size, 9, none⟩ = some (.slice D ld cd) ∧ w'.cell? ⟨w1.heap.size, 0, none⟩ = some (.int .i64 X) ∧ w'.cell? ⟨w1.heap.size, 1, none⟩ = some (.int .i64 Y) ∧ w'.cell? ⟨bf, of + j * 2, none⟩ = some (.int .i64 xl) ∧ w'.cell? ⟨bf, of + j * 2 + 1, none⟩ = some (.int .i64 xh) ∧ w'.cell? ⟨bb, ob + j, none⟩ = some (.int .i64 xb) ∧ w'.cell? ⟨W2.heap.size, j * 2, none⟩ = some (cur w' ⟨W2.heap.size, j * 2, none⟩) ∧ w'.frozen? ⟨W2.heap.size, j * 2, none⟩ = false ∧ w'.cell? ⟨W2.heap.size, j * 2 + 1, none⟩ = some (cur w' ⟨W2.heap.size, j * 2 + 1, none⟩) ∧ w'.frozen? ⟨W2.heap.size, j * 2 + 1, none⟩ = false)) := (fun w' h => by (have hc := h.cells; have hs := h.some; have hf := h.frozen; refine ⟨h, ?_⟩; (try simp only [World.size_alloc, World.size_setCell, size_drew, size_drewN] at hc hs hf); first | (simp (disch := omega) only [hc, hs, hf, cur_iff]; (try go_simp); done) | (simp (disch := first | omega | (simp; done)) only [hc, hs, hf, cur_iff]; (try go_simp); done) | (simp (maxDischargeDepth := 4) [hc, hs, hf, cur_iff, go_sem]; done) | (go_simp; done) | (simp (maxDischargeDepth := 4) [hc, hs, hf, cur_iff, go_sem]; go_simp))); go_region_held3 (fun w' => Reg (W2.heap.size) (wr) w' ∧ w'.cell? ⟨w.heap.size, 0, none⟩ = some (.string name) ∧ w'.cell? ⟨w.heap.size, 1, none⟩ = some (.slice A la ca) ∧ w'.cell? ⟨w.heap.size, 2, none⟩ = some (.slice B lb cb) ∧ w'.cell? ⟨w.heap.size, 3, none⟩ = some (.slice Cl lc cl) ∧ w'.cell? ⟨w.heap.size, 4, none⟩ = some (.int .i64 r) ∧ w'.cell? ⟨w.heap.size, 5, none⟩ = some (.int .i64 z) ∧ w'.cell? ⟨w.heap.size, 6, none⟩ = some (.int .i64 nr) ∧ w'.cell? ⟨w.heap.size, 7, none⟩ = some (.int .i64 nz) ∧ w'.cell? ⟨w.heap.size, 8, none⟩ = some (.int .i64 step) ∧ w'.cell? ⟨w.heap.size, 9, none⟩ = some (.slice D ld cd) ∧ w'.cell? ⟨w1.heap.size, 0, none⟩ = some (.int .i64 X) ∧ w'.cell? ⟨w1.heap.size, 1, none⟩ = some (.int .i64 Y) ∧ w'.cell? ⟨bf, of + j * 2, none⟩ = some (.int .i64 xl) ∧ w'.cell? ⟨bf, of + j * 2 + 1, none⟩ = some (.int .i64 xh) ∧ w'.cell? ⟨bb, ob + j, none⟩ = some (.int .i64 xb) ∧ w'.cell? ⟨W2.heap.size, j * 2, none⟩ = some (cur w' ⟨W2.heap.size, j * 2, none⟩) ∧ w'.frozen? ⟨W2.heap.size, j * 2, none⟩ = false ∧ w'.cell? ⟨W2.heap.size, j * 2 + 1, none⟩ = some (cur w' ⟨W2.heap.size, j * 2 + 1, none⟩) ∧ w'.frozen? ⟨W2.heap.size, j * 2 + 1, none⟩ = false) (exact HS.out _ (by (repeat first | with_reducible exact Reg.refl _ _ | with_reducible exact Reg.drewN2 _ _ _ _ | with_reducible exact (‹Reg _ _ _ ∧ _›).1 | (with_reducible refine Reg.setCell ?_ ?_ _; rotate_left; exact (by first | omega | ((try simp only [World.size_alloc, World.size_setCell, size_drew, size_drewN]); omega) | (simp; done) | (simp; omega))) | with_reducible refine Reg.alloc ?_ _ | with_reducible refine Reg.drew ?_ | with_reducible refine Reg.drewN ?_ _ | (with_reducible apply Reg.call; rotate_left; with_reducible assumption)))) (first | (go_at_call 65; (with_reducible refine (HR1.out _ (Reg.out (‹Reg _ _ _ ∧ _›).1 hBw (by first | omega | (simp; done) | (simp; omega)))).mono ?_); rintro e w8 ⟨rfl, hb8⟩; have hb := hb8; (first | (with_reducible have hk := Nat.lt_of_lt_of_le (size_alloc_lt _ _) hb.size) | (with_reducible have hk := Nat.lt_of_lt_of_le (size_alloc_drew_lt _ _) hb.size) | (with_reducible have hk := Nat.lt_of_lt_of_le hk hb.size) | skip); (try simp only [World.size_alloc, World.size_setCell, size_drew, size_drewN] at hk); obtain ⟨hc, hf⟩ := bcell hb; have hs := hb.size; (try simp only [World.size_alloc, World.size_setCell, size_drew, size_drewN] at hs); clear hb) | (go_at_call 30; (with_reducible refine (HA.out _).mono ?_); rintro e w9 ⟨rfl, hb9⟩; have hb := hb9; (first | (with_reducible have hk := Nat.lt_of_lt_of_le (size_alloc_lt _ _) hb.size) | (with_reducible have hk := Nat.lt_of_lt_of_le (size_alloc_drew_lt _ _) hb.size) | (with_reducible have hk := Nat.lt_of_lt_of_le hk hb.size) | skip); (try simp only [World.size_alloc, World.size_setCell, size_drew, size_drewN] at hk); obtain ⟨hc, hf⟩ := bcell hb; have hs := hb.size; (try simp only [World.size_alloc, World.size_setCell, size_drew, size_drewN] at hs); clear hb))
      all_goals go_wp2_with fail
      have h8 : Below W2.heap.size W2 w8 := Below.trans (by (with_reducible repeat first | exact Below.refl _ _ | assumption | ((first | refine Below.setCell ?_ ?_ _ | refine Below.alloc ?_ ?_ _); rotate_left; exact (by first | omega | (simp; done) | (simp; omega))) | refine Below.drew ?_ | refine Below_drewN ?_ _)) (hb8.mono (by first | omega | ((try simp only [World.size_alloc, World.size_setCell, size_drew, size_drewN]); omega) | (simp; done) | (simp; omega)))
      have h9 : Below W2.heap.size W2 w9 := Below.trans (by (with_reducible repeat first | exact Below.refl _ _ | assumption | ((first | refine Below.setCell ?_ ?_ _ | refine Below.alloc ?_ ?_ _); rotate_left; exact (by first | omega | (simp; done) | (simp; omega))) | refine Below.drew ?_ | refine Below_drewN ?_ _)) (hb9.mono (by first | omega | ((try simp only [World.size_alloc, World.size_setCell, size_drew, size_drewN]); omega) | (simp; done) | (simp; omega)))
      have hR9 : RowL W2.heap.size (T.take (j * 2) ++ List.replicate (ld * 2 - j * 2) (.int .i64 0)) w9 := by
        refine RowL.below ?_ hb9
        repeat refine RowL.drew ?_
        refine RowL.below ?_ hb8
        repeat refine RowL.drew ?_
        exact hR.out
      have HR9 := Lib.hid ((hR9.fill HL.out (by omega) HTj.out.1).fill HL.out (by omega) HTj.out.2)
      clear hR9
      go_roundw
      case rel => exact ⟨j + 1, by omega, by go_num, by rw [show (j + 1) * 2 = j * 2 + 1 + 1 by omega]; exact HR9, by (with_reducible repeat first | exact Below.refl _ _ | assumption | ((first | refine Below.setCell ?_ ?_ _ | refine Below.alloc ?_ ?_ _); rotate_left; exact (by first | omega | (simp; done) | (simp; omega))) | refine Below.drew ?_ | refine Below_drewN ?_ _)⟩
      case measure => simp [intOf]; omega
    · obtain rfl : j = ld := by omega
      have hR2 := hR.out
      rw [fill_all T (j * 2) _ HL.out] at hR2
      have HR3 := Lib.hid hR2
      clear hR hR0 hb1 hR2
      go_wp2_with fail
      go_ret
      exact ⟨W2.heap.size, rfl, by omega, HR3.out, hBw⟩
end
section
open Go.RowKit Go.Shelf
set_option maxHeartbeats 2000000 in
theorem validFaults_nil (R : MachR) (M : MachD) (w : World) (hM : IsM w R M) (hc : checkC M = 0) :
    Calls Tryz.prog 57 #[.agg (machCells R M), .slice none 0 0] w (Ret (.bool true) w) := by
  have H0 := Lib.hid (fun W (hb : Below w.heap.size w W) => by have := check_any R M W (hM.below hb); rw [hc] at this; exact this)
  have HF := Lib.hid (fun (c0 : Nat) W => containsFault1 99 c0 (fun _ => false) none 0 0 [] W (IsT.nil _ _ _ _) (by omega) (fun args W => enters_of Tryz.func99 (by kernel_rfl) rfl args W) (fun x W' hx => by cases hx))
  clear hM hc
  obtain ⟨A, B, C, D, la, ca, lb, cb, lc, cc, ld, cd⟩ := R
  obtain ⟨name, coils, shells, limits, ⟨r, z, nr, nz, step⟩, sensors⟩ := M
  have H0 := Lib.hid (show ∀ W, Below w.heap.size w W → Calls Tryz.prog 84 #[.agg #[.string name, .slice A la ca, .slice B lb cb, .slice C lc cc, .int .i64 r, .int .i64 z, .int .i64 nr, .int .i64 nz, .int .i64 step, .slice D ld cd]] W (Ret (.int .i64 0) W) from H0.out)
  show Calls Tryz.prog 57 #[.agg #[.string name, .slice A la ca, .slice B lb cb, .slice C lc cc, .int .i64 r, .int .i64 z, .int .i64 nr, .int .i64 nz, .int .i64 step, .slice D ld cd], .slice none 0 0] w _
  go_enter Tryz.func57, Tryz.ntmps57
  go_wp2_with (first | (go_at_call 84; refine (H0.out _ (by (repeat first | with_reducible exact Below.refl _ _ | (with_reducible refine Below.alloc ?_ ?_ _; rotate_left; exact (by omega))))).mono ?_; rintro e w1 ⟨rfl, hb⟩; have hB : Below w.heap.size w w1 := Below.trans (by (repeat first | with_reducible exact Below.refl _ _ | (with_reducible refine Below.alloc ?_ ?_ _; rotate_left; exact (by omega)))) (hb.mono (by (simp; done))); obtain ⟨hc, hf⟩ := bcell hb; have hs := hb.size; clear hb; (try simp only [World.size_alloc, World.size_setCell] at hc hf); (try simp only [World.size_alloc, World.size_setCell] at hs); (try have hs' := Nat.lt_of_succ_le hs); (try have hs0 : w.heap.size < w1.heap.size := by omega); (try have hs1 : w.heap.size + 1 < w1.heap.size := by omega); (try have hs2 : w.heap.size + 1 + 1 < w1.heap.size := by omega); (try have hs3 : w.heap.size + 1 + 1 + 1 < w1.heap.size := by omega)) | (go_at_call 98; refine (HF.out _ _).mono ?_; rintro e w1 ⟨rfl, hb⟩; have hB : Below w.heap.size w w1 := Below.trans (by (repeat with_reducible assumption)) (hb.mono (by omega)); obtain ⟨hc, hf⟩ := bcell hb; have hs := hb.size; clear hb; (try simp only [World.size_alloc, World.size_setCell] at hc hf); (try simp only [World.size_alloc, World.size_setCell] at hs); (try have hs' := Nat.lt_of_succ_le hs); (try have hs0 : w.heap.size < w1.heap.size := by omega); (try have hs1 : w.heap.size + 1 < w1.heap.size := by omega); (try have hs2 : w.heap.size + 1 + 1 < w1.heap.size := by omega); (try have hs3 : w.heap.size + 1 + 1 + 1 < w1.heap.size := by omega)))
  go_ret
  exact ⟨rfl, by (repeat with_reducible assumption)⟩
set_option maxHeartbeats 1000000 in
theorem faulty_nil (v k t : Int) (w : World) :
    Calls Tryz.prog 59 #[.int .i64 v, .slice none 0 0, .int .i64 k, .int .i64 t] w fun e w' => e = .returned (.int .i64 v) ∧ w = w' := by
  go_enter Tryz.func59, Tryz.ntmps59
  go_wp2
  go_loop [0, 13] (fun x i => x = .int .i64 v ∧ i = .int .i64 0) (fun _ _ => 0)
  case atStart => exact ⟨rfl, rfl⟩
  case round =>
    obtain ⟨rfl, rfl⟩ := hrel
    go_wp2
    go_ret
    exact ⟨rfl, rfl⟩
set_option maxHeartbeats 2000000 in
theorem mix_zero (w : World) :
    Calls Tryz.prog 60 #[.int .u32 0, .int .u32 0, .int .u32 0] w fun e w' => e = .returned (.int .u32 0) ∧ w = w' := by
  have i0 : ∀ w, (Instr.index 152 (.agg #[.int .u32 0, .int .u32 0]) (.int .i64 0)).run Tryz.prog w = .ok (.int .u32 0) w := fun _ => by kernel_rfl
  have i1 : ∀ w, (Instr.index 152 (.agg #[.int .u32 0, .int .u32 0]) (.int .i64 1)).run Tryz.prog w = .ok (.int .u32 0) w := fun _ => by kernel_rfl
  have hx : bits BinOp.xor IntKind.u32 0 0 = 0 := by kernel_rfl
  go_enter Tryz.func60, Tryz.ntmps60
  go_wp2
  go_loop [7, 9, 14] (fun h _ i => ∃ k : Nat, k ≤ 2 ∧ i = .int .i64 k ∧ h = .int .u32 0) (fun _ _ i => 2 - (intOf i).toNat)
  case atStart => exact ⟨0, by omega, rfl, rfl⟩
  case round =>
    obtain ⟨k, hk, rfl, rfl⟩ := hrel
    obtain rfl | rfl | rfl : k = 0 ∨ k = 1 ∨ k = 2 := by omega
    · go_wp2
      go_round
      case rel => exact ⟨1, by omega, rfl, rfl⟩
      case measure => simp [intOf]
    · go_wp2
      go_round
      case rel => exact ⟨2, by omega, rfl, rfl⟩
      case measure => simp [intOf]
    · go_wp2
      go_ret
      exact ⟨rfl, rfl⟩
end
section
open Go.RowKit Go.Shelf
def exM : MachD := ⟨⟨#[97]⟩, [], [], [⟨9, 0⟩], ⟨3, 4, 1, 1, 1⟩, [⟨⟨#[115]⟩, 1, 0, 0, 0⟩]⟩
def exC : CurD := ⟨[], [], [2]⟩
theorem exM_ok : checkC exM = 0 := by kernel_rfl
theorem exC_ok : validC exM exC = true := by kernel_rfl
theorem ex_flux : fluxW (0, 0) 0 (cellSrc ⟨3, 4, 1, 1, 1⟩ [2] 1) = 68964 := by kernel_rfl
set_option maxRecDepth 100000 in
set_option maxHeartbeats 8000000 in
theorem read_ex (x y z : Nat) (w : World) (hM : IsM w ⟨none, none, some ⟨x, 0, none⟩, some ⟨y, 0, none⟩, 0, 0, 0, 0, 1, 1, 1, 1⟩ exM) (hC : IsC w ⟨none, none, some ⟨z, 0, none⟩, 0, 0, 0, 0, 1, 1⟩ exC) :
    Calls Tryz.prog 25 #[.agg #[.string ⟨#[97]⟩, .slice none 0 0, .slice none 0 0, .slice (some ⟨x, 0, none⟩) 1 1, .int .i64 3, .int .i64 4, .int .i64 1, .int .i64 1, .int .i64 1, .slice (some ⟨y, 0, none⟩) 1 1], .agg #[.slice none 0 0, .slice none 0 0, .slice (some ⟨z, 0, none⟩) 1 1], .agg #[.int .u32 0, .slice none 0 0, .slice none 0 0], .int .i64 0] w
      fun e w' => ∃ b, e = .returned (.tuple #[.slice (some ⟨b, 0, none⟩) 1 1, .int .i64 0]) ∧ w.heap.size ≤ b ∧ b < w'.heap.size ∧ w'.cell? ⟨b, 0, none⟩ = some (.int .i64 68964) ∧ w'.cell? ⟨b, 1, none⟩ = some (.int .i64 68964) ∧ Below w.heap.size w w' := by
  have HV := Lib.hid (fun W (hb : Below w.heap.size w W) => show Calls Tryz.prog 56 #[.agg #[.string ⟨#[97]⟩, .slice none 0 0, .slice none 0 0, .slice (some ⟨x, 0, none⟩) 1 1, .int .i64 3, .int .i64 4, .int .i64 1, .int .i64 1, .int .i64 1, .slice (some ⟨y, 0, none⟩) 1 1], .agg #[.slice none 0 0, .slice none 0 0, .slice (some ⟨z, 0, none⟩) 1 1]] W (Ret (.bool true) W) from by
    have := validCurrents_any _ _ _ _ W (hM.below hb) (hC.below hb); rw [exC_ok] at this; exact this)
  have HF := Lib.hid (fun W (hb : Below w.heap.size w W) => show Calls Tryz.prog 57 #[.agg #[.string ⟨#[97]⟩, .slice none 0 0, .slice none 0 0, .slice (some ⟨x, 0, none⟩) 1 1, .int .i64 3, .int .i64 4, .int .i64 1, .int .i64 1, .int .i64 1, .slice (some ⟨y, 0, none⟩) 1 1], .slice none 0 0] W (Ret (.bool true) W) from by
    have := validFaults_nil _ _ W (hM.below hb) exM_ok; exact this)
  have HE := Lib.hid (fun W (hb : Below w.heap.size w W) => show Calls Tryz.prog 58 #[.agg #[.string ⟨#[97]⟩, .slice none 0 0, .slice none 0 0, .slice (some ⟨x, 0, none⟩) 1 1, .int .i64 3, .int .i64 4, .int .i64 1, .int .i64 1, .int .i64 1, .slice (some ⟨y, 0, none⟩) 1 1], .agg #[.slice none 0 0, .slice none 0 0, .slice (some ⟨z, 0, none⟩) 1 1], .int .i64 0] W (Ret (.tuple #[.int .i64 68964, .int .i64 0]) W) from by
    have := exact_flux ⟨#[97]⟩ none none (some ⟨x, 0, none⟩) (some ⟨y, 0, none⟩) 0 0 1 1 1 1 ⟨3, 4, 1, 1, 1⟩ [⟨9, 0⟩] [⟨⟨#[115]⟩, 1, 0, 0, 0⟩] none none (some ⟨z, 0, none⟩) 0 0 0 0 1 1 [] [] [2] 0 ⟨⟨#[115]⟩, 1, 0, 0, 0⟩ W (hM.below hb) (hC.below hb) exC_ok rfl rfl
    rw [ex_flux] at this; exact this)
  have HY : Hid (y < w.heap.size ∧ w.cell? ⟨y, 0, none⟩ = some (.string ⟨#[115]⟩) ∧ w.cell? ⟨y, 1, none⟩ = some (.int .i64 1) ∧ w.cell? ⟨y, 2, none⟩ = some (.int .i64 0) ∧ w.cell? ⟨y, 3, none⟩ = some (.int .i64 0) ∧ w.cell? ⟨y, 4, none⟩ = some (.int .i64 0)) := by
    obtain ⟨b, o, hD, hb0, hcl⟩ := hM.sensors.2 (show 0 < 1 by omega)
    dsimp only at hD
    injection hD with hD
    injection hD with h1 h2 _
    subst h1
    subst h2
    have c0 := hcl 0 ⟨⟨#[115]⟩, 1, 0, 0, 0⟩ rfl 0 _ rfl
    have c1 := hcl 0 ⟨⟨#[115]⟩, 1, 0, 0, 0⟩ rfl 1 _ rfl
    have c2 := hcl 0 ⟨⟨#[115]⟩, 1, 0, 0, 0⟩ rfl 2 _ rfl
    have c3 := hcl 0 ⟨⟨#[115]⟩, 1, 0, 0, 0⟩ rfl 3 _ rfl
    have c4 := hcl 0 ⟨⟨#[115]⟩, 1, 0, 0, 0⟩ rfl 4 _ rfl
    exact Lib.hid ⟨hb0, by simpa using c0, by simpa using c1, by simpa using c2, by simpa using c3, by simpa using c4⟩
  clear hM hC
  have wt : wthn 0 0 1000000000 = true := by decide
  have hmk : ∀ w, (Instr.makeSlice 33 (.int .i64 1) (.int .i64 1)).run Tryz.prog w = .ok (.slice (some ⟨w.heap.size, 0, none⟩) 1 1) (w.alloc (.cells #[.int .i64 0, .int .i64 0] 41)) := fun _ => by kernel_rfl
  have hmk : ∀ w, (Instr.makeSlice 33 (.int .i64 1) (.int .i64 1)).run Tryz.prog w = .ok (.slice (some ⟨w.heap.size, 0, none⟩) 1 1) (w.alloc (.cells #[.int .i64 0, .int .i64 0] 41)) := fun _ => by kernel_rfl
  have hmk : ∀ w, (Instr.makeSlice 33 (.int .i64 1) (.int .i64 1)).run Tryz.prog w = .ok (.slice (some ⟨w.heap.size, 0, none⟩) 1 1) (w.alloc (.cells #[.int .i64 0, .int .i64 0] 41)) := fun _ => by kernel_rfl
  have hmk : ∀ w, (Instr.makeSlice 33 (.int .i64 1) (.int .i64 1)).run Tryz.prog w = .ok (.slice (some ⟨w.heap.size, 0, none⟩) 1 1) (w.alloc (.cells #[.int .i64 0, .int .i64 0] 41)) := fun _ => by kernel_rfl
  have hmk : ∀ w, (Instr.makeSlice 33 (.int .i64 1) (.int .i64 1)).run Tryz.prog w = .ok (.slice (some ⟨w.heap.size, 0, none⟩) 1 1) (w.alloc (.cells #[.int .i64 0, .int .i64 0] 41)) := fun _ => by kernel_rfl
  have hmk : ∀ w, (Instr.makeSlice 33 (.int .i64 1) (.int .i64 1)).run Tryz.prog w = .ok (.slice (some ⟨w.heap.size, 0, none⟩) 1 1) (w.alloc (.cells #[.int .i64 0, .int .i64 0] 41)) := fun _ => by kernel_rfl
  have hmk : ∀ w, (Instr.makeSlice 33 (.int .i64 1) (.int .i64 1)).run Tryz.prog w = .ok (.slice (some ⟨w.heap.size, 0, none⟩) 1 1) (w.alloc (.cells #[.int .i64 0, .int .i64 0] 41)) := fun _ => by kernel_rfl
  have hmk : ∀ w, (Instr.makeSlice 33 (.int .i64 1) (.int .i64 1)).run Tryz.prog w = .ok (.slice (some ⟨w.heap.size, 0, none⟩) 1 1) (w.alloc (.cells #[.int .i64 0, .int .i64 0] 41)) := fun _ => by kernel_rfl
  go_enter Tryz.func25, Tryz.ntmps25
  go_wp2_with (first | (go_at_call 56; refine (HV.out _ (by (repeat first | with_reducible exact Below.refl _ _ | (with_reducible refine Below.alloc ?_ ?_ _; rotate_left; exact (by first | omega | (simp; done) | (simp; omega)))))).mono ?_; rintro e w1 ⟨rfl, hb⟩; have hB : Below w.heap.size w w1 := Below.trans (by (repeat first | with_reducible exact Below.refl _ _ | (with_reducible refine Below.alloc ?_ ?_ _; rotate_left; exact (by first | omega | (simp; done) | (simp; omega))))) (hb.mono (by (simp; omega))); obtain ⟨hc, hf⟩ := bcell hb; have hs := hb.size; clear hb; (try simp only [World.size_alloc, World.size_setCell] at hc hf); (try simp only [World.size_alloc, World.size_setCell] at hs); (try have hs' := Nat.lt_of_succ_le hs); (try have hs0 : w.heap.size < w1.heap.size := by omega); (try have hs1 : w.heap.size + 1 < w1.heap.size := by omega); (try have hs2 : w.heap.size + 1 + 1 < w1.heap.size := by omega); (try have hs3 : w.heap.size + 1 + 1 + 1 < w1.heap.size := by omega)) | (go_at_call 57; refine (HF.out _ (by (repeat with_reducible assumption))).mono ?_; rintro e w1 ⟨rfl, hb⟩; have hB : Below w.heap.size w w1 := Below.trans (by (repeat with_reducible assumption)) (hb.mono (by omega)); obtain ⟨hc, hf⟩ := bcell hb; have hs := hb.size; clear hb; (try simp only [World.size_alloc, World.size_setCell] at hc hf); (try simp only [World.size_alloc, World.size_setCell] at hs); (try have hs' := Nat.lt_of_succ_le hs); (try have hs0 : w.heap.size < w1.heap.size := by omega); (try have hs1 : w.heap.size + 1 < w1.heap.size := by omega); (try have hs2 : w.heap.size + 1 + 1 < w1.heap.size := by omega); (try have hs3 : w.heap.size + 1 + 1 + 1 < w1.heap.size := by omega)) | (go_at_call 37; refine (swithin_any _ _ _ _).mono ?_; rintro e w1 ⟨rfl, rfl⟩))
  clear hmk
  obtain ⟨X, hX⟩ : ∃ X, w1.heap.size = X := ⟨_, rfl⟩
  have hX0 : w.heap.size + 1 + 1 < X := by omega
  rw [hX]
  have HX := Lib.hid hX
  clear hX
  go_loopw [11, 12, 13, 14, 36] (fun _ _ _ _ i wr => (i = .int .i64 0 ∧ (wr.cell? ⟨w.heap.size, 0, none⟩ = some (.string ⟨#[97]⟩) ∧ wr.cell? ⟨w.heap.size, 1, none⟩ = some (.slice none 0 0) ∧ wr.cell? ⟨w.heap.size, 2, none⟩ = some (.slice none 0 0) ∧ wr.cell? ⟨w.heap.size, 3, none⟩ = some (.slice (some ⟨x, 0, none⟩) 1 1) ∧ wr.cell? ⟨w.heap.size, 4, none⟩ = some (.int .i64 3) ∧ wr.cell? ⟨w.heap.size, 5, none⟩ = some (.int .i64 4) ∧ wr.cell? ⟨w.heap.size, 6, none⟩ = some (.int .i64 1) ∧ wr.cell? ⟨w.heap.size, 7, none⟩ = some (.int .i64 1) ∧ wr.cell? ⟨w.heap.size, 8, none⟩ = some (.int .i64 1) ∧ wr.cell? ⟨w.heap.size, 9, none⟩ = some (.slice (some ⟨y, 0, none⟩) 1 1) ∧ wr.cell? ⟨w.heap.size + 1, 0, none⟩ = some (.slice none 0 0) ∧ wr.cell? ⟨w.heap.size + 1, 1, none⟩ = some (.slice none 0 0) ∧ wr.cell? ⟨w.heap.size + 1, 2, none⟩ = some (.slice (some ⟨z, 0, none⟩) 1 1) ∧ wr.cell? ⟨w.heap.size + 1 + 1, 0, none⟩ = some (.int .u32 0) ∧ wr.cell? ⟨w.heap.size + 1 + 1, 1, none⟩ = some (.slice none 0 0)) ∧ Below w.heap.size w wr ∧ X < wr.heap.size ∧ ((wr).cell? ⟨X, 0, none⟩ = some (cur (wr) ⟨X, 0, none⟩) ∧ (wr).frozen? ⟨X, 0, none⟩ = false) ∧ ((wr).cell? ⟨X, 1, none⟩ = some (cur (wr) ⟨X, 1, none⟩) ∧ (wr).frozen? ⟨X, 1, none⟩ = false)) ∨ (i = .int .i64 1 ∧ Below w.heap.size w wr ∧ X < wr.heap.size ∧ wr.cell? ⟨X, 0, none⟩ = some (.int .i64 68964) ∧ wr.cell? ⟨X, 1, none⟩ = some (.int .i64 68964))) (fun _ _ _ _ i _ => 1 - (intOf i).toNat)
  case atStart =>
    have hX := HX.out
    subst hX
    exact .inl ⟨rfl, ⟨by go_simp, by go_simp, by go_simp, by go_simp, by go_simp, by go_simp, by go_simp, by go_simp, by go_simp, by go_simp, by go_simp, by go_simp, by go_simp, by go_simp, by go_simp⟩, by (repeat first | with_reducible assumption | (with_reducible refine Below.alloc ?_ ?_ _; rotate_left; exact (by omega))), (by ((try simp only [World.size_alloc, World.size_setCell, size_drew, size_drewN]); omega)), ⟨by simp only [cur_iff]; go_simp, by go_simp⟩, ⟨by simp only [cur_iff]; go_simp, by go_simp⟩⟩
  case round =>
    rcases hrel with ⟨rfl, ⟨m0, m1, m2, m3, m4, m5, m6, m7, m8, m9, c0, c1, c2, s0, s1⟩, hB', hXs, ⟨k0, q0⟩, ⟨k1, q1⟩⟩ | ⟨rfl, hB', hXs, v0, v1⟩
    · obtain ⟨y0, Y0, Y1, Y2, Y3, Y4⟩ := HY.out
      have z0 := (hB'.cell (p := ⟨y, 0, none⟩) y0).trans Y0
      have z1 := (hB'.cell (p := ⟨y, 1, none⟩) y0).trans Y1
      have z2 := (hB'.cell (p := ⟨y, 2, none⟩) y0).trans Y2
      have z3 := (hB'.cell (p := ⟨y, 3, none⟩) y0).trans Y3
      have z4 := (hB'.cell (p := ⟨y, 4, none⟩) y0).trans Y4
      have g0 : w.heap.size < wr.heap.size := by omega
      have g1 : w.heap.size + 1 < wr.heap.size := by omega
      have g2 : w.heap.size + 1 + 1 < wr.heap.size := by omega
      clear Y0 Y1 Y2 Y3 Y4
      go_upto_region 11 with (first | (go_at_call 58; refine (HE.out _ (by (repeat first | with_reducible assumption | (with_reducible refine Below.alloc ?_ ?_ _; rotate_left; exact (by omega))))).mono ?_; rintro e w2 ⟨rfl, hb⟩; have hB2 : Below w.heap.size w w2 := Below.trans (by (repeat first | with_reducible assumption | (with_reducible refine Below.alloc ?_ ?_ _; rotate_left; exact (by omega)))) (hb.mono (by ((try simp only [World.size_alloc, World.size_setCell, size_drew, size_drewN]); omega))); obtain ⟨hc2, hf2⟩ := bcell hb; have hs2 := hb.size; (try simp only [World.size_alloc, World.size_setCell] at hc2 hf2 hs2); have X0 : (w2.cell? ⟨X, 0, none⟩).isSome = true := (by rw [hc2 X 0 (by omega)]; go_simp); have X1 : (w2.cell? ⟨X, 1, none⟩).isSome = true := (by rw [hc2 X 1 (by omega)]; go_simp); have Q0 : w2.frozen? ⟨X, 0, none⟩ = false := (by rw [hf2 X 0 (by omega)]; go_simp); have Q1 : w2.frozen? ⟨X, 1, none⟩ = false := (by rw [hf2 X 1 (by omega)]; go_simp); have S0 : w2.cell? ⟨w.heap.size + 1 + 1, 0, none⟩ = some (.int .u32 0) := (by rw [hc2 _ _ (by omega)]; go_simp); have S1 : w2.cell? ⟨w.heap.size + 1 + 1, 1, none⟩ = some (.slice none 0 0) := (by rw [hc2 _ _ (by omega)]; go_simp); have E4 : w2.cell? ⟨wr.heap.size, 4, none⟩ = some (.int .i64 0) := (by rw [hc2 _ _ (by omega)]; go_simp); clear hc2 hf2 hb) | (go_at_call 59; refine (faulty_nil _ _ _ _).mono ?_; rintro e w3 ⟨rfl, rfl⟩))
      go_cut [13] (fun s13 wx => s13 = .int .i64 68964 ∧ Below w.heap.size w wx ∧ X < wx.heap.size ∧ wx.cell? ⟨X, 0, none⟩ = some (cur wx ⟨X, 0, none⟩) ∧ wx.cell? ⟨X, 1, none⟩ = some (cur wx ⟨X, 1, none⟩) ∧ wx.frozen? ⟨X, 0, none⟩ = false ∧ wx.frozen? ⟨X, 1, none⟩ = false ∧ wx.cell? ⟨wr.heap.size, 4, none⟩ = some (.int .i64 0))
      case first =>
        have r1 : (0 : Int).tmod 1 = 0 := by decide
        have r2 : ((1 : Int) == 0) = false := by decide
        have r3 : ¬(1 : Int) = 0 := by decide
        have r4 : IntKind.i64.wrap 0 = 0 := by decide
        have r5 : IntKind.i64.wrap 1 = 1 := by decide
        have r6 : IntKind.i64.wrap 68964 = 68964 := by decide
        have HS : Hid (∀ w' : World, Reg (w2.heap.size) (w2) w' → (Reg (w2.heap.size) (w2) w' ∧ w'.cell? ⟨w.heap.size + 1 + 1, 0, none⟩ = some (.int .u32 0) ∧ w'.cell? ⟨wr.heap.size, 4, none⟩ = some (.int .i64 0))) := (fun w' h => by (have hc := h.cells; have hs := h.some; have hf := h.frozen; refine ⟨h, ?_⟩; (try simp only [World.size_alloc, World.size_setCell, size_drew, size_drewN] at hc hs hf); first | (simp (disch := omega) only [hc, hs, hf, cur_iff]; (try go_simp); done) | (simp (disch := first | omega | (simp; done)) only [hc, hs, hf, cur_iff]; (try go_simp); done) | (simp (maxDischargeDepth := 4) [hc, hs, hf, cur_iff, go_sem]; done) | (go_simp; done) | (simp (maxDischargeDepth := 4) [hc, hs, hf, cur_iff, go_sem]; go_simp))); go_region_held3 (fun w' => Reg (w2.heap.size) (w2) w' ∧ w'.cell? ⟨w.heap.size + 1 + 1, 0, none⟩ = some (.int .u32 0) ∧ w'.cell? ⟨wr.heap.size, 4, none⟩ = some (.int .i64 0)) (exact HS.out _ (by (repeat first | with_reducible exact Reg.refl _ _ | with_reducible exact (‹Reg _ _ _ ∧ _›).1 | with_reducible refine Reg.drew ?_))) ((go_at_call 60; refine (mix_zero _).mono ?_; rintro e w4 ⟨rfl, rfl⟩))
        all_goals go_wp2_with fail
        all_goals go_meet
        all_goals
          have hH := ‹Reg _ _ _ ∧ _›
          refine ⟨rfl, Reg.out hH.1 hB2 (by omega), Nat.lt_of_lt_of_le (by omega) hH.1.size, (by rw [cur_iff]; exact (hH.1.some _ _ (by omega)).trans X0), (by rw [cur_iff]; exact (hH.1.some _ _ (by omega)).trans X1), (hH.1.frozen _ _ (by omega)).trans Q0, (hH.1.frozen _ _ (by omega)).trans Q1, hH.2.2⟩
      case rest =>
        obtain ⟨rfl, hB3, hX3, x0, x1, f0, f1, e4⟩ := hcut
        go_wp2_with fail
        go_roundw
        case rel => exact .inr ⟨rfl, by (repeat first | with_reducible assumption | (with_reducible refine Below.setCell ?_ ?_ _; rotate_left; exact (by (simp; omega)))), (by ((try simp only [World.size_alloc, World.size_setCell, size_drew, size_drewN]); omega)), by go_simp, by go_simp⟩
        case measure => simp [intOf]
    · go_wp2_with fail
      go_ret2
      exact ⟨X, rfl, by omega, hXs, v0, v1, hB'⟩
end
section
open Go.RowKit
set_option maxHeartbeats 2000000 in
theorem gains_pos (v lo hi : Int) (w : World) (hv : 0 < v) (v2 : v ≤ 1000000000000000) (l1 : -1000000000000000 ≤ lo) (l2 : lo ≤ 1000000000000000) (h1 : -1000000000000000 ≤ hi) (h2 : hi ≤ 1000000000000000) :
    Calls Tryz.prog 62 #[Pr (v, lo, hi)] w (Ret (Sp (flo (lo * 1000) v) (cei (hi * 1000) v)) w) := by
  have e1 : IntKind.i64.wrap (lo * 1000) = lo * 1000 := IntWalk.i64_in _ (by omega)
  have e2 : IntKind.i64.wrap (hi * 1000) = hi * 1000 := IntWalk.i64_in _ (by omega)
  have HD := Lib.hid (fun W => down_any (lo * 1000) v W (by omega) (by omega) (by omega) (by omega) (by omega))
  have HU := Lib.hid (fun W => up_any (hi * 1000) v W (by omega) (by omega) (by omega) (by omega) (by omega))
  go_enter Tryz.func62, Tryz.ntmps62
  go_upto_region 1 with fail
  go_cut [3, 4] (fun s3 s4 wx => s3 = .int .i64 (lo * 1000) ∧ s4 = .int .i64 (hi * 1000) ∧ wx.cell? ⟨w.heap.size, 0, none⟩ = some (.int .i64 v) ∧ w.heap.size + 1 < wx.heap.size ∧ Below w.heap.size w wx ∧ (wx).cell? ⟨w.heap.size + 1, 0, none⟩ = some (cur (wx) ⟨w.heap.size + 1, 0, none⟩) ∧ (wx).frozen? ⟨w.heap.size + 1, 0, none⟩ = false ∧ (wx).cell? ⟨w.heap.size + 1, 1, none⟩ = some (cur (wx) ⟨w.heap.size + 1, 1, none⟩) ∧ (wx).frozen? ⟨w.heap.size + 1, 1, none⟩ = false)
  case first =>
    go_quiet (fail)
    go_wp2_with fail
    go_meet
    exact ⟨rfl, rfl, (by go_simp), (by ((try simp only [World.size_alloc, World.size_setCell, size_drew, size_drewN]); omega)), (by (repeat first | with_reducible exact Below.refl _ _ | (with_reducible refine Below.alloc ?_ ?_ _; rotate_left; exact (by first | omega | (simp; done))) | with_reducible refine Below_drewN ?_ _)), (by simp only [cur_iff]; go_simp), (by go_simp), (by simp only [cur_iff]; go_simp), (by go_simp)⟩
  case rest =>
    obtain ⟨rfl, rfl, c0, hs, hB, k0, q0, k1, q1⟩ := hcut
    clear e1 e2
    generalize lo * 1000 = L at *
    generalize hi * 1000 = U at *
    go_wp2_with fail
    have HS : Hid (∀ w' : World, Reg (w.heap.size + 1) (wc) w' → (Reg (w.heap.size + 1) (wc) w' ∧ w'.cell? ⟨w.heap.size, 0, none⟩ = some (.int .i64 v))) := (fun w' h => by (have hc := h.cells; have hs := h.some; have hf := h.frozen; refine ⟨h, ?_⟩; (try simp only [World.size_alloc, World.size_setCell, size_drew, size_drewN] at hc hs hf); first | (simp (disch := omega) only [hc, hs, hf, cur_iff]; (try go_simp); done) | (simp (disch := first | omega | (simp; done)) only [hc, hs, hf, cur_iff]; (try go_simp); done) | (simp (maxDischargeDepth := 4) [hc, hs, hf, cur_iff, go_sem]; done) | (go_simp; done) | (simp (maxDischargeDepth := 4) [hc, hs, hf, cur_iff, go_sem]; go_simp))); go_region_held3 (fun w' => Reg (w.heap.size + 1) (wc) w' ∧ w'.cell? ⟨w.heap.size, 0, none⟩ = some (.int .i64 v)) (exact HS.out _ (by (repeat first | with_reducible exact Reg.refl _ _ | with_reducible exact (‹Reg _ _ _ ∧ _›).1 | (with_reducible refine Reg.setCell ?_ ?_ _; rotate_left; exact (by (simp; done))) | with_reducible refine Reg.drew ?_))) (first | (go_at_call 69; refine (HD.out _).mono ?_; rintro e w1 ⟨rfl, rfl⟩) | (go_at_call 68; refine (HU.out _).mono ?_; rintro e w1 ⟨rfl, rfl⟩))
    all_goals go_wp2_with fail
    all_goals exact bodyPost_ret (resF Tryz.results62 _ _ _ _ _ rfl (by (try simp only [isSome_setCell]); first | assumption | go_simp) (by (try simp only [isSome_setCell]); first | assumption | go_simp)) rfl ⟨rfl, by (repeat first | with_reducible assumption | (with_reducible refine Below.setCell ?_ ?_ _; rotate_left; exact (by (simp; done))) | with_reducible refine Below.drew ?_)⟩
end
section
open Go.RowKit
set_option maxHeartbeats 2000000 in
theorem gains_neg (v lo hi : Int) (w : World) (hv : v < 0) (v2 : -1000000000000000 ≤ v) (l1 : -1000000000000000 ≤ lo) (l2 : lo ≤ 1000000000000000) (h1 : -1000000000000000 ≤ hi) (h2 : hi ≤ 1000000000000000) :
    Calls Tryz.prog 62 #[Pr (v, lo, hi)] w (Ret (Sp (flo (hi * 1000) v) (cei (lo * 1000) v)) w) := by
  have e1 : IntKind.i64.wrap (lo * 1000) = lo * 1000 := IntWalk.i64_in _ (by omega)
  have e2 : IntKind.i64.wrap (hi * 1000) = hi * 1000 := IntWalk.i64_in _ (by omega)
  have HD := Lib.hid (fun W => down_any (hi * 1000) v W (by omega) (by omega) (by omega) (by omega) (by omega))
  have HU := Lib.hid (fun W => up_any (lo * 1000) v W (by omega) (by omega) (by omega) (by omega) (by omega))
  go_enter Tryz.func62, Tryz.ntmps62
  go_upto_region 1 with fail
  go_cut [3, 4] (fun s3 s4 wx => s3 = .int .i64 (lo * 1000) ∧ s4 = .int .i64 (hi * 1000) ∧ wx.cell? ⟨w.heap.size, 0, none⟩ = some (.int .i64 v) ∧ w.heap.size + 1 < wx.heap.size ∧ Below w.heap.size w wx ∧ (wx).cell? ⟨w.heap.size + 1, 0, none⟩ = some (cur (wx) ⟨w.heap.size + 1, 0, none⟩) ∧ (wx).frozen? ⟨w.heap.size + 1, 0, none⟩ = false ∧ (wx).cell? ⟨w.heap.size + 1, 1, none⟩ = some (cur (wx) ⟨w.heap.size + 1, 1, none⟩) ∧ (wx).frozen? ⟨w.heap.size + 1, 1, none⟩ = false)
  case first =>
    go_quiet (fail)
    go_wp2_with fail
    go_meet
    exact ⟨rfl, rfl, (by go_simp), (by ((try simp only [World.size_alloc, World.size_setCell, size_drew, size_drewN]); omega)), (by (repeat first | with_reducible exact Below.refl _ _ | (with_reducible refine Below.alloc ?_ ?_ _; rotate_left; exact (by first | omega | (simp; done))) | with_reducible refine Below_drewN ?_ _)), (by simp only [cur_iff]; go_simp), (by go_simp), (by simp only [cur_iff]; go_simp), (by go_simp)⟩
  case rest =>
    obtain ⟨rfl, rfl, c0, hs, hB, k0, q0, k1, q1⟩ := hcut
    clear e1 e2
    generalize lo * 1000 = L at *
    generalize hi * 1000 = U at *
    go_wp2_with fail
    have HS : Hid (∀ w' : World, Reg (w.heap.size + 1) (wc) w' → (Reg (w.heap.size + 1) (wc) w' ∧ w'.cell? ⟨w.heap.size, 0, none⟩ = some (.int .i64 v))) := (fun w' h => by (have hc := h.cells; have hs := h.some; have hf := h.frozen; refine ⟨h, ?_⟩; (try simp only [World.size_alloc, World.size_setCell, size_drew, size_drewN] at hc hs hf); first | (simp (disch := omega) only [hc, hs, hf, cur_iff]; (try go_simp); done) | (simp (disch := first | omega | (simp; done)) only [hc, hs, hf, cur_iff]; (try go_simp); done) | (simp (maxDischargeDepth := 4) [hc, hs, hf, cur_iff, go_sem]; done) | (go_simp; done) | (simp (maxDischargeDepth := 4) [hc, hs, hf, cur_iff, go_sem]; go_simp))); go_region_held3 (fun w' => Reg (w.heap.size + 1) (wc) w' ∧ w'.cell? ⟨w.heap.size, 0, none⟩ = some (.int .i64 v)) (exact HS.out _ (by (repeat first | with_reducible exact Reg.refl _ _ | with_reducible exact (‹Reg _ _ _ ∧ _›).1 | (with_reducible refine Reg.setCell ?_ ?_ _; rotate_left; exact (by (simp; done))) | with_reducible refine Reg.drew ?_))) (first | (go_at_call 69; refine (HD.out _).mono ?_; rintro e w1 ⟨rfl, rfl⟩) | (go_at_call 68; refine (HU.out _).mono ?_; rintro e w1 ⟨rfl, rfl⟩))
    all_goals go_wp2_with fail
    all_goals exact bodyPost_ret (resF Tryz.results62 _ _ _ _ _ rfl (by (try simp only [isSome_setCell]); first | assumption | go_simp) (by (try simp only [isSome_setCell]); first | assumption | go_simp)) rfl ⟨rfl, by (repeat first | with_reducible assumption | (with_reducible refine Below.setCell ?_ ?_ _; rotate_left; exact (by (simp; done))) | with_reducible refine Below.drew ?_)⟩
end
section
open Go.RowKit
set_option maxHeartbeats 2000000 in
theorem gains_zero (lo hi a b : Int) (w : World) (hg : (cont lo hi 0 = true ∧ a = -1000000000 ∧ b = 1000000000) ∨ (cont lo hi 0 = false ∧ a = 1 ∧ b = 0)) (l1 : -1000000000000000 ≤ lo) (l2 : lo ≤ 1000000000000000) (h1 : -1000000000000000 ≤ hi) (h2 : hi ≤ 1000000000000000) :
    Calls Tryz.prog 62 #[Pr (0, lo, hi)] w (Ret (Sp a b) w) := by
  have e1 : IntKind.i64.wrap (lo * 1000) = lo * 1000 := IntWalk.i64_in _ (by omega)
  have e2 : IntKind.i64.wrap (hi * 1000) = hi * 1000 := IntWalk.i64_in _ (by omega)
  go_enter Tryz.func62, Tryz.ntmps62
  go_upto_region 1 with fail
  go_cut [] (fun wx => wx.cell? ⟨w.heap.size, 0, none⟩ = some (.int .i64 0) ∧ wx.cell? ⟨w.heap.size, 1, none⟩ = some (.int .i64 lo) ∧ wx.cell? ⟨w.heap.size, 2, none⟩ = some (.int .i64 hi) ∧ w.heap.size + 1 < wx.heap.size ∧ Below w.heap.size w wx ∧ (wx).cell? ⟨w.heap.size + 1, 0, none⟩ = some (cur (wx) ⟨w.heap.size + 1, 0, none⟩) ∧ (wx).frozen? ⟨w.heap.size + 1, 0, none⟩ = false ∧ (wx).cell? ⟨w.heap.size + 1, 1, none⟩ = some (cur (wx) ⟨w.heap.size + 1, 1, none⟩) ∧ (wx).frozen? ⟨w.heap.size + 1, 1, none⟩ = false)
  case first =>
    go_quiet (fail)
    go_wp2_with fail
    go_meet
    exact ⟨(by go_simp), (by go_simp), (by go_simp), (by ((try simp only [World.size_alloc, World.size_setCell, size_drew, size_drewN]); omega)), (by (repeat first | with_reducible exact Below.refl _ _ | (with_reducible refine Below.alloc ?_ ?_ _; rotate_left; exact (by first | omega | (simp; done))) | with_reducible refine Below_drewN ?_ _)), (by simp only [cur_iff]; go_simp), (by go_simp), (by simp only [cur_iff]; go_simp), (by go_simp)⟩
  case rest =>
    obtain ⟨c0, c1, c2, hs, hB, k0, q0, k1, q1⟩ := hcut
    clear e1 e2
    rcases hg with ⟨hc, rfl, rfl⟩ | ⟨hc, rfl, rfl⟩
    · go_wp2_with (first | (go_at_call 70; refine (contains_any _ _ _ _).mono ?_; rintro e w1 ⟨rfl, hb⟩; have hB : Below w.heap.size w w1 := Below.trans (by (repeat with_reducible assumption)) (hb.mono (by omega)); obtain ⟨hc, hf⟩ := bcell hb; have hs := hb.size; clear hb; (try simp only [World.size_alloc, World.size_setCell] at hc hf); (try simp only [World.size_alloc, World.size_setCell] at hs); (try have hs' := Nat.lt_of_succ_le hs); (try have hs0 : w.heap.size < w1.heap.size := by omega); (try have hs1 : w.heap.size + 1 < w1.heap.size := by omega); (try have hs2 : w.heap.size + 1 + 1 < w1.heap.size := by omega); (try have hs3 : w.heap.size + 1 + 1 + 1 < w1.heap.size := by omega); (try have iso : (w1.cell? ⟨w.heap.size, 0, none⟩).isSome = true := by (rw [hc _ _ (by omega)]; (try simp only [isSome_setCell]); first | assumption | go_simp)); (try have iso : (w1.cell? ⟨w.heap.size, 1, none⟩).isSome = true := by (rw [hc _ _ (by omega)]; (try simp only [isSome_setCell]); first | assumption | go_simp)); (try have iso : (w1.cell? ⟨w.heap.size + 1, 0, none⟩).isSome = true := by (rw [hc _ _ (by omega)]; (try simp only [isSome_setCell]); first | assumption | go_simp)); (try have iso : (w1.cell? ⟨w.heap.size + 1, 1, none⟩).isSome = true := by (rw [hc _ _ (by omega)]; (try simp only [isSome_setCell]); first | assumption | go_simp)); (try have iso : (w1.cell? ⟨w.heap.size + 1 + 1, 0, none⟩).isSome = true := by (rw [hc _ _ (by first | omega | (simp; done) | (simp; omega))]; (try simp only [isSome_setCell]); first | assumption | go_simp)); (try have iso : (w1.cell? ⟨w.heap.size + 1 + 1, 1, none⟩).isSome = true := by (rw [hc _ _ (by first | omega | (simp; done) | (simp; omega))]; (try simp only [isSome_setCell]); first | assumption | go_simp))) | (go_at_call 105; refine (everyGain_any _).mono ?_; rintro e w1 ⟨rfl, hb⟩; have hB : Below w.heap.size w w1 := Below.trans (by (repeat with_reducible assumption)) (hb.mono (by omega)); obtain ⟨hc, hf⟩ := bcell hb; have hs := hb.size; clear hb; (try simp only [World.size_alloc, World.size_setCell] at hc hf); (try simp only [World.size_alloc, World.size_setCell] at hs); (try have hs' := Nat.lt_of_succ_le hs); (try have hs0 : w.heap.size < w1.heap.size := by omega); (try have hs1 : w.heap.size + 1 < w1.heap.size := by omega); (try have hs2 : w.heap.size + 1 + 1 < w1.heap.size := by omega); (try have hs3 : w.heap.size + 1 + 1 + 1 < w1.heap.size := by omega); (try have iso : (w1.cell? ⟨w.heap.size, 0, none⟩).isSome = true := by (rw [hc _ _ (by omega)]; (try simp only [isSome_setCell]); first | assumption | go_simp)); (try have iso : (w1.cell? ⟨w.heap.size, 1, none⟩).isSome = true := by (rw [hc _ _ (by omega)]; (try simp only [isSome_setCell]); first | assumption | go_simp)); (try have iso : (w1.cell? ⟨w.heap.size + 1, 0, none⟩).isSome = true := by (rw [hc _ _ (by omega)]; (try simp only [isSome_setCell]); first | assumption | go_simp)); (try have iso : (w1.cell? ⟨w.heap.size + 1, 1, none⟩).isSome = true := by (rw [hc _ _ (by omega)]; (try simp only [isSome_setCell]); first | assumption | go_simp)); (try have iso : (w1.cell? ⟨w.heap.size + 1 + 1, 0, none⟩).isSome = true := by (rw [hc _ _ (by first | omega | (simp; done) | (simp; omega))]; (try simp only [isSome_setCell]); first | assumption | go_simp)); (try have iso : (w1.cell? ⟨w.heap.size + 1 + 1, 1, none⟩).isSome = true := by (rw [hc _ _ (by first | omega | (simp; done) | (simp; omega))]; (try simp only [isSome_setCell]); first | assumption | go_simp))))
      exact bodyPost_ret (resS Tryz.results62 _ _ _ _ _ rfl (by (try simp only [isSome_setCell]); first | assumption | go_simp) (by (try simp only [isSome_setCell]); first | assumption | go_simp)) rfl ⟨rfl, by (repeat first | with_reducible assumption | (with_reducible refine Below.setCell ?_ ?_ _; rotate_left; exact (by (simp; done))))⟩
    · go_wp2_with (go_at_call 70; refine (contains_any _ _ _ _).mono ?_; rintro e w1 ⟨rfl, hb⟩; have hB : Below w.heap.size w w1 := Below.trans (by (repeat with_reducible assumption)) (hb.mono (by omega)); obtain ⟨hc, hf⟩ := bcell hb; have hs := hb.size; clear hb; (try simp only [World.size_alloc, World.size_setCell] at hc hf); (try simp only [World.size_alloc, World.size_setCell] at hs); (try have hs' := Nat.lt_of_succ_le hs); (try have hs0 : w.heap.size < w1.heap.size := by omega); (try have hs1 : w.heap.size + 1 < w1.heap.size := by omega); (try have hs2 : w.heap.size + 1 + 1 < w1.heap.size := by omega); (try have hs3 : w.heap.size + 1 + 1 + 1 < w1.heap.size := by omega); (try have iso : (w1.cell? ⟨w.heap.size, 0, none⟩).isSome = true := by (rw [hc _ _ (by omega)]; (try simp only [isSome_setCell]); first | assumption | go_simp)); (try have iso : (w1.cell? ⟨w.heap.size, 1, none⟩).isSome = true := by (rw [hc _ _ (by omega)]; (try simp only [isSome_setCell]); first | assumption | go_simp)); (try have iso : (w1.cell? ⟨w.heap.size + 1, 0, none⟩).isSome = true := by (rw [hc _ _ (by omega)]; (try simp only [isSome_setCell]); first | assumption | go_simp)); (try have iso : (w1.cell? ⟨w.heap.size + 1, 1, none⟩).isSome = true := by (rw [hc _ _ (by omega)]; (try simp only [isSome_setCell]); first | assumption | go_simp)); (try have iso : (w1.cell? ⟨w.heap.size + 1 + 1, 0, none⟩).isSome = true := by (rw [hc _ _ (by first | omega | (simp; done) | (simp; omega))]; (try simp only [isSome_setCell]); first | assumption | go_simp)); (try have iso : (w1.cell? ⟨w.heap.size + 1 + 1, 1, none⟩).isSome = true := by (rw [hc _ _ (by first | omega | (simp; done) | (simp; omega))]; (try simp only [isSome_setCell]); first | assumption | go_simp)))
      exact bodyPost_ret (resS Tryz.results62 _ _ _ _ _ rfl (by (try simp only [isSome_setCell]); first | assumption | go_simp) (by (try simp only [isSome_setCell]); first | assumption | go_simp)) rfl ⟨rfl, by (repeat first | with_reducible assumption | (with_reducible refine Below.setCell ?_ ?_ _; rotate_left; exact (by (simp; done))))⟩
end
section
open Go.RowKit
theorem gains_any (v lo hi : Int) (w : World) (hk : okP (v, lo, hi) = true) :
    Calls Tryz.prog 62 #[Pr (v, lo, hi)] w (Ret (Sp (gLo (v, lo, hi)) (gHi (v, lo, hi))) w) := by
  obtain ⟨⟨v1, v2⟩, hle, l1, h2⟩ := okP_iff.1 hk
  dsimp only at v1 v2 hle l1 h2
  unfold gLo gHi
  dsimp only
  by_cases p : 0 < v
  · rw [if_pos p, if_pos p]; exact gains_pos v lo hi w p v2 l1 (by omega) (by omega) h2
  · by_cases n : v < 0
    · rw [if_neg p, if_neg p, if_pos n, if_pos n]; exact gains_neg v lo hi w n v1 l1 (by omega) (by omega) h2
    · obtain rfl : v = 0 := by omega
      rw [if_neg p, if_neg p, if_neg n, if_neg n]
      have hvl : vld lo hi = true := vld_iff.2 ⟨hle, l1, h2⟩
      by_cases c : lo ≤ 0 ∧ 0 ≤ hi
      · rw [if_pos c, if_pos c]; exact gains_zero lo hi _ _ w (.inl ⟨by simp [cont, hvl, c], rfl, rfl⟩) l1 (by omega) (by omega) h2
      · rw [if_neg c, if_neg c]; exact gains_zero lo hi _ _ w (.inr ⟨by simp [cont]; omega, rfl, rfl⟩) l1 (by omega) (by omega) h2
end
end Go.Proofs.YtapldonpflgnfaaGreatDoor
