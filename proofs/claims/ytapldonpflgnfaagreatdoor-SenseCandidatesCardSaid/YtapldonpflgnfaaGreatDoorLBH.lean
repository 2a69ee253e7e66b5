import Derived.Test.YtapldonpflgnfaaGreatDoorLAB
import Derived.Test.YtapldonpflgnfaaGreatDoorLAN
import Derived.Test.YtapldonpflgnfaaGreatDoorLAQ
import Derived.Test.YtapldonpflgnfaaGreatDoorLAR
import Derived.Test.YtapldonpflgnfaaGreatDoorLBA
import Derived.Test.YtapldonpflgnfaaGreatDoorLBB
import Derived.Test.YtapldonpflgnfaaGreatDoorLBD
import Derived.Test.YtapldonpflgnfaaGreatDoorLBE
import Derived.Test.YtapldonpflgnfaaGreatDoorLBG
import Derived.Test.YtapldonpflgnfaaGreatDoorRows
import Derived.KernelRfl
import Derived.Laws.StructEq
namespace Go.Proofs.YtapldonpflgnfaaGreatDoor
set_option linter.unusedVariables false
set_option linter.unusedSimpArgs false
section
open Go.RowKit Go.Shelf
set_option maxRecDepth 100000 in
set_option maxHeartbeats 8000000 in
theorem claimsIn_any (R : MachR) (M : MachD) (P F : Option Addr) (np cp nf cf : Nat) (bs : List Int) (zs : List SpanD) (cell : Int) (w : World) (hM : IsM w R M) (hB : IsT 1 intCells w P np bs) (hF : IsT 2 SpanD.cells w F nf zs) (hc : checkC M = 0) (hcell : wthn cell 0 (M.grid.nr * M.grid.nz - 1) = true)
  (hnb : np = R.ld) (hnf : nf = R.ld) (hbs : ∀ b ∈ bs, -50000000000000000 ≤ b ∧ b ≤ 50000000000000000) (hzs : ∀ s ∈ zs, vld s.lo s.hi = true) :
  Calls Tryz.prog 39 #[.agg (machCells R M), .slice P np cp, .slice F nf cf, .int .i64 cell] w (MadeAt R.ld ((clL M bs zs cell).flatMap SpanD.cells) w) := by
 have hl := hM.sensors.1
 have hb1 := hB.1
 have hf1 := hF.1
 have hld : R.ld ≤ 1000 := by have := (sound_of hc).sensors.1; omega
 have hlc : 1 ≤ R.lc := by have := hM.limits.1; have := limits_pos hc; omega
 have hcl : cellL M cell = (cellR M.grid cell, cellZ M.grid cell, 0) := by
  unfold cellL
  rw [if_pos hc, if_pos hcell]
 have HCE := Lib.hid (fun W (hb : Below w.heap.size w W) => (by have h := mcell9_any R M cell W (hM.below hb); rw [hcl] at h; exact h : Calls Tryz.prog 64 #[.agg (machCells R M), .int .i64 cell] W (Ret (.tuple #[.agg #[.int .i64 (cellR M.grid cell), .int .i64 (cellZ M.grid cell)], .int .i64 0]) W)))
 obtain ⟨rf, hrf⟩ : ∃ rf : Nat → Int, ∀ k : Nat, (respL M (k : Int) cell).1 = rf k := ⟨fun k => (respL M (k : Int) cell).1, fun _ => rfl⟩
 have HRA := Lib.hid (fun (k : Nat) (hk : k < R.ld) W (hb : Below w.heap.size w W) => (by
  obtain ⟨x, hx⟩ : ∃ x, M.sensors[k]? = some x := ⟨_, List.getElem?_eq_getElem (by omega)⟩
  have h := respAt_any R M k x (cellR M.grid cell) (cellZ M.grid cell) W (hM.below hb) hx hlc
  have e : (exactL (aloneM M x (cellR M.grid cell) (cellZ M.grid cell)) oneC4 0).1 = rf k := by
   have c := wthn_iff.1 hcell
   rw [alone_exact hc (List.mem_of_getElem? hx) (cell_near hc (by omega) (by omega)), ← hrf, respL_val hc (wthn_iff.2 (by omega)) hcell (by simpa using hx)]
  rw [e] at h
  exact h : Calls Tryz.prog 65 #[.agg (machCells R M), .int .i64 (k : Int), .agg #[.int .i64 (cellR M.grid cell), .int .i64 (cellZ M.grid cell)]] W (Ret (.int .i64 (rf k)) W)))
 have HRB : Hid (∀ k : Nat, -250000 ≤ rf k ∧ rf k ≤ 250000) := Lib.hid (fun k => by rw [← hrf]; exact respL_bd M k cell)
 have HT : Hid (∀ (k : Nat) (s : SpanD) (b : Int), zs[k]? = some s → bs[k]? = some b → ((clL M bs zs cell).flatMap SpanD.cells)[k * 2]? = some (.int .i64 (allowL s.lo s.hi b (rf k)).1) ∧ ((clL M bs zs cell).flatMap SpanD.cells)[k * 2 + 1]? = some (.int .i64 (allowL s.lo s.hi b (rf k)).2)) := Lib.hid (fun k s b h1 h2 => by
  have hk : k < M.sensors.length := by have := (List.getElem?_eq_some_iff.1 h1).1; omega
  have h := flat2 _ k _ (clL_get (M := M) (bs := bs) (zs := zs) (cell := cell) hk)
  unfold clF at h
  simp only [List.getD_eq_getElem?_getD, h1, h2, Option.getD_some, hrf] at h
  exact h)
 have HL : Hid (((clL M bs zs cell).flatMap SpanD.cells).length = R.ld * 2) := Lib.hid (by rw [flat2_len, clL_len, hl])
 have HBs := Lib.hid hbs
 have HZs := Lib.hid hzs
 have HIB := Lib.hid hB
 have HIF := Lib.hid hF
 subst hnb hnf
 clear hM hB hF hc hcell hbs hzs hcl hrf hl hlc
 generalize (clL M bs zs cell).flatMap SpanD.cells = T at *
 generalize cellR M.grid cell = X at *
 generalize cellZ M.grid cell = Y at *
 obtain ⟨A, B, Cl, D, la, ca, lb, cb, lc, cl, ld, cd⟩ := R
 obtain ⟨name, coils, shells, limits, ⟨r, z, nr, nz, step⟩, sensors⟩ := M
 dsimp only at *
 have HCE2 := Lib.hid (show ∀ W, Below w.heap.size w W → Calls Tryz.prog 64 #[.agg #[.string name, .slice A la ca, .slice B lb cb, .slice Cl lc cl, .int .i64 r, .int .i64 z, .int .i64 nr, .int .i64 nz, .int .i64 step, .slice D ld cd], .int .i64 cell] W (Ret (.tuple #[.agg #[.int .i64 X, .int .i64 Y], .int .i64 0]) W) from HCE.out)
 have HRA2 := Lib.hid (show ∀ k : Nat, k < ld → ∀ W, Below w.heap.size w W → Calls Tryz.prog 65 #[.agg #[.string name, .slice A la ca, .slice B lb cb, .slice Cl lc cl, .int .i64 r, .int .i64 z, .int .i64 nr, .int .i64 nz, .int .i64 step, .slice D ld cd], .int .i64 k, .agg #[.int .i64 X, .int .i64 Y]] W (Ret (.int .i64 (rf k)) W) from HRA.out)
 clear HCE HRA
 have hmk := run_make_span 98 Tryz.underlying98 ld (by omega)
 show Calls Tryz.prog 39 #[.agg #[.string name, .slice A la ca, .slice B lb cb, .slice Cl lc cl, .int .i64 r, .int .i64 z, .int .i64 nr, .int .i64 nz, .int .i64 step, .slice D ld cd], .slice P ld cp, .slice F ld cf, .int .i64 cell] w _
 go_enter Tryz.func39, Tryz.ntmps39
 go_upto_region 1 with (fail)
 have Fm : Hid (RowL (w.heap.size) [.string name, .slice A la ca, .slice B lb cb, .slice Cl lc cl, .int .i64 r, .int .i64 z, .int .i64 nr, .int .i64 nz, .int .i64 step, .slice D ld cd] (w.alloc (.cells #[.string name, .slice A la ca, .slice B lb cb, .slice Cl lc cl, .int .i64 r, .int .i64 z, .int .i64 nr, .int .i64 nz, .int .i64 step, .slice D ld cd] 29))) := Lib.hid (by have h := RowL.new w #[.string name, .slice A la ca, .slice B lb cb, .slice Cl lc cl, .int .i64 r, .int .i64 z, .int .i64 nr, .int .i64 nz, .int .i64 step, .slice D ld cd] 29; (try simp only [World.size_alloc] at h); exact h)
 have hB0 : Below w.heap.size w (w.alloc (.cells #[.string name, .slice A la ca, .slice B lb cb, .slice Cl lc cl, .int .i64 r, .int .i64 z, .int .i64 nr, .int .i64 nz, .int .i64 step, .slice D ld cd] 29)) := by (with_reducible repeat first | exact Below.refl _ _ | assumption | ((first | refine Below.setCell ?_ ?_ _ | refine Below.alloc ?_ ?_ _); rotate_left; exact (by first | omega | (simp; done) | (simp; omega))) | refine Below.drew ?_ | refine Below_drewN ?_ _)
 have sW0 : w.heap.size < (w.alloc (.cells #[.string name, .slice A la ca, .slice B lb cb, .slice Cl lc cl, .int .i64 r, .int .i64 z, .int .i64 nr, .int .i64 nz, .int .i64 step, .slice D ld cd] 29)).heap.size := by simp only [World.size_alloc]; omega
 obtain ⟨W0, hW0⟩ : ∃ W, (w.alloc (.cells #[.string name, .slice A la ca, .slice B lb cb, .slice Cl lc cl, .int .i64 r, .int .i64 z, .int .i64 nr, .int .i64 nz, .int .i64 step, .slice D ld cd] 29)) = W := ⟨_, rfl⟩
 rw [hW0] at Fm hB0 sW0 ⊢
 clear hW0
 have m0 := Fm.out.cell 0 (.string name) rfl
 have m1 := Fm.out.cell 1 (.slice A la ca) rfl
 have m2 := Fm.out.cell 2 (.slice B lb cb) rfl
 have m3 := Fm.out.cell 3 (.slice Cl lc cl) rfl
 have m4 := Fm.out.cell 4 (.int .i64 r) rfl
 have m5 := Fm.out.cell 5 (.int .i64 z) rfl
 have m6 := Fm.out.cell 6 (.int .i64 nr) rfl
 have m7 := Fm.out.cell 7 (.int .i64 nz) rfl
 have m8 := Fm.out.cell 8 (.int .i64 step) rfl
 have m9 := Fm.out.cell 9 (.slice D ld cd) rfl
 go_wp2_with fail
 refine (HCE2.out _ hB0).mono ?_
 rintro e w1 ⟨rfl, hb⟩
 clear m0 m1 m2 m3 m4 m5 m6 m7 m8 m9
 have Gm := Lib.hid (Fm.out.below hb)
 clear Fm
 have Fm := Lib.hid Gm.out
 clear Gm
 have m0 := Fm.out.cell 0 (.string name) rfl
 have m1 := Fm.out.cell 1 (.slice A la ca) rfl
 have m2 := Fm.out.cell 2 (.slice B lb cb) rfl
 have m3 := Fm.out.cell 3 (.slice Cl lc cl) rfl
 have m4 := Fm.out.cell 4 (.int .i64 r) rfl
 have m5 := Fm.out.cell 5 (.int .i64 z) rfl
 have m6 := Fm.out.cell 6 (.int .i64 nr) rfl
 have m7 := Fm.out.cell 7 (.int .i64 nz) rfl
 have m8 := Fm.out.cell 8 (.int .i64 step) rfl
 have m9 := Fm.out.cell 9 (.slice D ld cd) rfl
 have hB1 := hB0.trans (hb.mono hB0.size)
 have hz1 : w.heap.size < w1.heap.size := Nat.lt_of_lt_of_le sW0 hb.size
 clear hb hB0 sW0 HCE2
 go_upto_region 2 with (fail)
 have Fq : Hid (RowL (w1.heap.size) [.int .i64 X, .int .i64 Y] (w1.alloc (.cells #[.int .i64 X, .int .i64 Y] 79))) := Lib.hid (by have h := RowL.new w1 #[.int .i64 X, .int .i64 Y] 79; (try simp only [World.size_alloc] at h); exact h)
 have hb2 : Below w1.heap.size w1 (w1.alloc (.cells #[.int .i64 X, .int .i64 Y] 79)) := by (with_reducible repeat first | exact Below.refl _ _ | assumption | ((first | refine Below.setCell ?_ ?_ _ | refine Below.alloc ?_ ?_ _); rotate_left; exact (by first | omega | (simp; done) | (simp; omega))) | refine Below.drew ?_ | refine Below_drewN ?_ _)
 have sW2 : w1.heap.size < (w1.alloc (.cells #[.int .i64 X, .int .i64 Y] 79)).heap.size := by simp only [World.size_alloc]; omega
 obtain ⟨W2, hW2⟩ : ∃ W, (w1.alloc (.cells #[.int .i64 X, .int .i64 Y] 79)) = W := ⟨_, rfl⟩
 rw [hW2] at Fq hb2 sW2 ⊢
 clear hW2
 clear m0 m1 m2 m3 m4 m5 m6 m7 m8 m9
 have Gm := Lib.hid (Fm.out.below hb2)
 clear Fm
 have Fm := Lib.hid Gm.out
 clear Gm
 have m0 := Fm.out.cell 0 (.string name) rfl
 have m1 := Fm.out.cell 1 (.slice A la ca) rfl
 have m2 := Fm.out.cell 2 (.slice B lb cb) rfl
 have m3 := Fm.out.cell 3 (.slice Cl lc cl) rfl
 have m4 := Fm.out.cell 4 (.int .i64 r) rfl
 have m5 := Fm.out.cell 5 (.int .i64 z) rfl
 have m6 := Fm.out.cell 6 (.int .i64 nr) rfl
 have m7 := Fm.out.cell 7 (.int .i64 nz) rfl
 have m8 := Fm.out.cell 8 (.int .i64 step) rfl
 have m9 := Fm.out.cell 9 (.slice D ld cd) rfl
 have q0 := Fq.out.cell 0 (.int .i64 X) rfl
 have q1 := Fq.out.cell 1 (.int .i64 Y) rfl
 have hB2 := hB1.trans (hb2.mono hB1.size)
 clear hb2
 have hz2 : w.heap.size < W2.heap.size := by omega
 go_upto_region 3 with (fail)
 have hR0 : Hid (RowL W2.heap.size (T.take (0 * 2) ++ List.replicate (ld * 2 - 0 * 2) (.int .i64 0)) (W2.alloc (.cells (madeCells #[.int .i64 0, .int .i64 0] (ld * 2)) 41))) := Lib.hid (by rw [Nat.zero_mul, fill_none]; exact RowL.made2 W2 _ _ _)
 have hb1 : Below W2.heap.size W2 (W2.alloc (.cells (madeCells #[.int .i64 0, .int .i64 0] (ld * 2)) 41)) := by (with_reducible repeat first | exact Below.refl _ _ | assumption | ((first | refine Below.setCell ?_ ?_ _ | refine Below.alloc ?_ ?_ _); rotate_left; exact (by first | omega | (simp; done) | (simp; omega))) | refine Below.drew ?_ | refine Below_drewN ?_ _)
 obtain ⟨W3, hW3⟩ : ∃ W, W2.alloc (.cells (madeCells #[.int .i64 0, .int .i64 0] (ld * 2)) 41) = W := ⟨_, rfl⟩
 rw [hW3] at hR0 hb1 ⊢
 clear hW3 hmk m0 m1 m2 m3 m4 m5 m6 m7 m8 m9 q0 q1
 go_wp2_with fail
 go_loopw [25] (fun i wr => ∃ j : Nat, j ≤ ld ∧ i = .int .i64 j ∧ Hid (RowL W2.heap.size (T.take (j * 2) ++ List.replicate (ld * 2 - j * 2) (.int .i64 0)) wr) ∧ Below W2.heap.size W2 wr) (fun i _ => ld - (intOf i).toNat)
 case atStart => exact ⟨0, Nat.zero_le _, rfl, hR0, hb1⟩
 case round =>
  obtain ⟨j, hj, rfl, hR, hB⟩ := hrel
  have sz := hB.size
  have hBw := hB2.trans (hB.mono hB2.size)
  by_cases hlt : j < ld
  ·obtain ⟨-, hcf⟩ := HIF.out.below hBw
   obtain ⟨bf, of, rfl, hbf, hcf⟩ := hcf (by omega)
   obtain ⟨-, hcb⟩ := HIB.out.below hBw
   obtain ⟨bb, ob, rfl, hbb, hcb⟩ := hcb (by omega)
   have hbf1 : bf < w.heap.size := by obtain ⟨b9, o9, e9, h9, -⟩ := HIF.out.2 (by omega); injection e9 with e9; injection e9 with e9; omega
   have hbb1 : bb < w.heap.size := by obtain ⟨b9, o9, e9, h9, -⟩ := HIB.out.2 (by omega); injection e9 with e9; injection e9 with e9; omega
   obtain ⟨s, hs⟩ : ∃ s, zs[j]? = some s := ⟨_, List.getElem?_eq_getElem (by omega)⟩
   obtain ⟨xb, hx⟩ : ∃ b, bs[j]? = some b := ⟨_, List.getElem?_eq_getElem (by omega)⟩
   have e0 : wr.cell? ⟨bf, of + j * 2, none⟩ = some (.int .i64 s.lo) := by have h := hcf j s hs 0 _ rfl; simpa using h
   have e1 : wr.cell? ⟨bf, of + j * 2 + 1, none⟩ = some (.int .i64 s.hi) := by have h := hcf j s hs 1 _ rfl; simpa using h
   have e2 : wr.cell? ⟨bb, ob + j, none⟩ = some (.int .i64 xb) := by have h := hcb j xb hx 0 _ rfl; simpa using h
   have hT := HT.out j s xb hs hx
   have hv := vld_iff.1 (HZs.out s (List.mem_of_getElem? hs))
   have hxb := HBs.out xb (List.mem_of_getElem? hx)
   have hr := HRB.out j
   have HR1 := Lib.hid (HRA2.out j hlt)
   obtain ⟨xl, xh⟩ := s
   dsimp only at e0 e1 hT hv
   have HA := Lib.hid (fun W => allowed_any xl xh xb (rf j) W (by omega) (by omega) (by omega) (by omega) (by omega) (by omega) (by omega) (by omega))
   generalize rf j = G at *
   generalize allowL xl xh xb G = U at *
   obtain ⟨u, v⟩ := U
   have HTj := Lib.hid hT
   clear hcf hcb hs hx hT hv hxb hr
   dsimp only at HA HTj
   have r0 := hR.out.cell (j * 2) (.int .i64 0) (fill_get T (ld * 2) (j * 2) _ HL.out (by omega))
   have rf0 := hR.out.mark (j * 2) (by rw [fill_len T (ld * 2) (j * 2) _ HL.out (by omega)]; omega)
   have r1 : wr.cell? ⟨W2.heap.size, j * 2 + 1, none⟩ = some (.int .i64 0) := hR.out.cell (j * 2 + 1) (.int .i64 0) (by
    have h1 : (T.take (j * 2)).length = j * 2 := by rw [List.length_take, HL.out]; omega
    rw [List.getElem?_append_right (by omega), h1, List.getElem?_replicate, if_pos (by omega)])
   have rf1 := hR.out.mark (j * 2 + 1) (by rw [fill_len T (ld * 2) (j * 2) _ HL.out (by omega)]; omega)
   have hpl := hR.out.lt
   have m0 := (Fm.out.below hB).cell 0 (.string name) rfl
   have m1 := (Fm.out.below hB).cell 1 (.slice A la ca) rfl
   have m2 := (Fm.out.below hB).cell 2 (.slice B lb cb) rfl
   have m3 := (Fm.out.below hB).cell 3 (.slice Cl lc cl) rfl
   have m4 := (Fm.out.below hB).cell 4 (.int .i64 r) rfl
   have m5 := (Fm.out.below hB).cell 5 (.int .i64 z) rfl
   have m6 := (Fm.out.below hB).cell 6 (.int .i64 nr) rfl
   have m7 := (Fm.out.below hB).cell 7 (.int .i64 nz) rfl
   have m8 := (Fm.out.below hB).cell 8 (.int .i64 step) rfl
   have m9 := (Fm.out.below hB).cell 9 (.slice D ld cd) rfl
   have q0 := (Fq.out.below hB).cell 0 (.int .i64 X) rfl
   have q1 := (Fq.out.below hB).cell 1 (.int .i64 Y) rfl
   have jn : ((j : Int)).toNat = j := by omega
   have j0 : (0 : Int) ≤ j := by omega
   have g1 : w1.heap.size < W2.heap.size := sW2
   clear hR0 hb1
   go_wp2_with fail
   have HS : Hid (∀ w' : World, Reg (W2.heap.size) (wr) w' → (Reg (W2.heap.size) (wr) w' ∧ w'.cell? ⟨w.heap.size, 0, none⟩ = some (.string name) ∧ w'.cell? ⟨w.heap.size, 1, none⟩ = some (.slice A la ca) ∧ w'.cell? ⟨w.heap.size, 2, none⟩ = some (.slice B lb cb) ∧ w'.cell? ⟨w.heap.size, 3, none⟩ = some (.slice Cl lc cl) ∧ w'.cell? ⟨w.heap.size, 4, none⟩ = some (.int .i64 r) ∧ w'.cell? ⟨w.heap.size, 5, none⟩ = some (.int .i64 z) ∧ w'.cell? ⟨w.heap.size, 6, none⟩ = some (.int .i64 nr) ∧ w'.cell? ⟨w.heap.size, 7, none⟩ = some (.int .i64 nz) ∧ w'.cell? ⟨w.heap.size, 8, none⟩ = some (.int .i64 step) ∧ w'.cell? ⟨w.heap.size, 9, none⟩ = some (.slice D ld cd) ∧ w'.cell? ⟨w1.heap.size, 0, none⟩ = some (.int .i64 X) ∧ w'.cell? ⟨w1.heap.size, 1, none⟩ = some (.int .i64 Y) ∧ w'.cell? ⟨bf, of + j * 2, none⟩ = some (.int .i64 xl) ∧ w'.cell? ⟨bf, of + j * 2 + 1, none⟩ = some (.int .i64 xh) ∧ w'.cell? ⟨bb, ob + j, none⟩ = some (.int .i64 xb) ∧ w'.cell? ⟨W2.heap.size, j * 2, none⟩ = some (cur w' ⟨W2.heap.size, j * 2, none⟩) ∧ w'.frozen? ⟨W2.heap.size, j * 2, none⟩ = false ∧ w'.cell? ⟨W2.heap.size, j * 2 + 1, none⟩ = some (cur w' ⟨W2.heap.size, j * 2 + 1, none⟩) ∧ w'.frozen? ⟨W2.heap.size, j * 2 + 1, none⟩ = false)) := (fun w' h => by (have hc := h.cells; have hs := h.some; have hf := h.frozen; refine ⟨h, ?_⟩; (try simp only [World.size_alloc, World.size_setCell, size_drew, size_drewN] at hc hs hf); first | (simp (disch := omega) only [hc, hs, hf, cur_iff]; (try go_simp); done) | (simp (disch := first | omega | (simp; done)) only [hc, hs, hf, cur_iff]; (try go_simp); done) | (simp (maxDischargeDepth := 4) [hc, hs, hf, cur_iff, go_sem]; done) | (go_simp; done) | (simp (maxDischargeDepth := 4) [hc, hs, hf, cur_iff, go_sem]; go_simp))); go_region_held3 (fun w' => Reg (W2.heap.size) (wr) w' ∧ w'.cell? ⟨w.heap.size, 0, none⟩ = some (.string name) ∧ w'.cell? ⟨w.heap.size, 1, none⟩ = some (.slice A la ca) ∧ w'.cell? ⟨w.heap.size, 2, none⟩ = some (.slice B lb cb) ∧ w'.cell? ⟨w.heap.size, 3, none⟩ = some (.slice Cl lc cl) ∧ w'.cell? ⟨w.heap.size, 4, none⟩ = some (.int .i64 r) ∧ w'.cell? ⟨w.heap.size, 5, none⟩ = some (.int .i64 z) ∧ w'.cell? ⟨w.heap.size, 6, none⟩ = some (.int .i64 nr) ∧ w'.cell? ⟨w.heap.size, 7, none⟩ = some (.int .i64 nz) ∧ w'.cell? ⟨w.heap.size, 8, none⟩ = some (.int .i64 step) ∧ w'.cell? ⟨w.heap.size, 9, none⟩ = some (.slice D ld cd) ∧ w'.cell? ⟨w1.heap.size, 0, none⟩ = some (.int .i64 X) ∧ w'.cell? ⟨w1.heap.size, 1, none⟩ = some (.int .i64 Y) ∧ w'.cell? ⟨bf, of + j * 2, none⟩ = some (.int .i64 xl) ∧ w'.cell? ⟨bf, of + j * 2 + 1, none⟩ = some (.int .i64 xh) ∧ w'.cell? ⟨bb, ob + j, none⟩ = some (.int .i64 xb) ∧ w'.cell? ⟨W2.heap.size, j * 2, none⟩ = some (cur w' ⟨W2.heap.size, j * 2, none⟩) ∧ w'.frozen? ⟨W2.heap.size, j * 2, none⟩ = false ∧ w'.cell? ⟨W2.heap.size, j * 2 + 1, none⟩ = some (cur w' ⟨W2.heap.size, j * 2 + 1, none⟩) ∧ w'.frozen? ⟨W2.heap.size, j * 2 + 1, none⟩ = false) (exact HS.out _ (by (repeat first | with_reducible exact Reg.refl _ _ | with_reducible exact Reg.drewN2 _ _ _ _ | with_reducible exact (‹Reg _ _ _ ∧ _›).1 | (with_reducible refine Reg.setCell ?_ ?_ _; rotate_left; exact (by first | omega | ((try simp only [World.size_alloc, World.size_setCell, size_drew, size_drewN]); omega) | (simp; done) | (simp; omega))) | with_reducible refine Reg.alloc ?_ _ | with_reducible refine Reg.drew ?_ | with_reducible refine Reg.drewN ?_ _ | (with_reducible apply Reg.call; rotate_left; with_reducible assumption)))) (first | (go_at_call 65; (with_reducible refine (HR1.out _ (Reg.out (‹Reg _ _ _ ∧ _›).1 hBw (by first | omega | (simp; done) | (simp; omega)))).mono ?_); rintro e w8 ⟨rfl, hb8⟩; have hb := hb8; (first | (with_reducible have hk := Nat.lt_of_lt_of_le (size_alloc_lt _ _) hb.size) | (with_reducible have hk := Nat.lt_of_lt_of_le (size_alloc_drew_lt _ _) hb.size) | (with_reducible have hk := Nat.lt_of_lt_of_le hk hb.size) | skip); (try simp only [World.size_alloc, World.size_setCell, size_drew, size_drewN] at hk); obtain ⟨hc, hf⟩ := bcell hb; have hs := hb.size; (try simp only [World.size_alloc, World.size_setCell, size_drew, size_drewN] at hs); clear hb) | (go_at_call 30; (with_reducible refine (HA.out _).mono ?_); rintro e w9 ⟨rfl, hb9⟩; have hb := hb9; (first | (with_reducible have hk := Nat.lt_of_lt_of_le (size_alloc_lt _ _) hb.size) | (with_reducible have hk := Nat.lt_of_lt_of_le (size_alloc_drew_lt _ _) hb.size) | (with_reducible have hk := Nat.lt_of_lt_of_le hk hb.size) | skip); (try simp only [World.size_alloc, World.size_setCell, size_drew, size_drewN] at hk); obtain ⟨hc, hf⟩ := bcell hb; have hs := hb.size; (try simp only [World.size_alloc, World.size_setCell, size_drew, size_drewN] at hs); clear hb))
   all_goals go_wp2_with fail
   have h8 : Below W2.heap.size W2 w8 := Below.trans (by (with_reducible repeat first | exact Below.refl _ _ | assumption | ((first | refine Below.setCell ?_ ?_ _ | refine Below.alloc ?_ ?_ _); rotate_left; exact (by first | omega | (simp; done) | (simp; omega))) | refine Below.drew ?_ | refine Below_drewN ?_ _)) (hb8.mono (by first | omega | ((try simp only [World.size_alloc, World.size_setCell, size_drew, size_drewN]); omega) | (simp; done) | (simp; omega)))
   have h9 : Below W2.heap.size W2 w9 := Below.trans (by (with_reducible repeat first | exact Below.refl _ _ | assumption | ((first | refine Below.setCell ?_ ?_ _ | refine Below.alloc ?_ ?_ _); rotate_left; exact (by first | omega | (simp; done) | (simp; omega))) | refine Below.drew ?_ | refine Below_drewN ?_ _)) (hb9.mono (by first | omega | ((try simp only [World.size_alloc, World.size_setCell, size_drew, size_drewN]); omega) | (simp; done) | (simp; omega)))
   have hR9 : RowL W2.heap.size (T.take (j * 2) ++ List.replicate (ld * 2 - j * 2) (.int .i64 0)) w9 := by
    refine RowL.below ?_ hb9
    repeat refine RowL.drew ?_
    refine RowL.below ?_ hb8
    repeat refine RowL.drew ?_
    exact hR.out
   have HR9 := Lib.hid ((hR9.fill HL.out (by omega) HTj.out.1).fill HL.out (by omega) HTj.out.2)
   clear hR9
   go_roundw
   case rel => exact ⟨j + 1, by omega, by go_num, by rw [show (j + 1) * 2 = j * 2 + 1 + 1 by omega]; exact HR9, by (with_reducible repeat first | exact Below.refl _ _ | assumption | ((first | refine Below.setCell ?_ ?_ _ | refine Below.alloc ?_ ?_ _); rotate_left; exact (by first | omega | (simp; done) | (simp; omega))) | refine Below.drew ?_ | refine Below_drewN ?_ _)⟩
   case measure => simp [intOf]; omega
  ·obtain rfl : j = ld := by omega
   have hR2 := hR.out
   rw [fill_all T (j * 2) _ HL.out] at hR2
   have HR3 := Lib.hid hR2
   clear hR hR0 hb1 hR2
   go_wp2_with fail
   go_ret
   exact ⟨W2.heap.size, rfl, by omega, HR3.out, hBw⟩
end
section
open Go.RowKit
theorem aq_pm {E : Cfg} {U : Snaps} {l : Slots} {L M : Boxes} {X : Act → World → Prop} (hp : Pm M L) (h : AQ E U l M X) : AQ E U l L X := fun a w hf hs => h a w hf (hs.pm hp)
theorem ah_few {P : Program} {e0 : Cfg} {u : Nat × World} {U U0 : Snaps} {l : Slots} {L L0 : Boxes} {ops : Array Oper} {Q : Exit → Act → World → Prop} {last fuel : Nat} {listed : Array Bool} (k : AH P ops Q U0 L0 last fuel listed e0 U l L) : AH P ops Q U0 L0 last fuel listed e0 (u :: U) l L := fun hok hc a w hf hs => k hok hc a w hf (hs.fewer 1 rfl)
theorem hm_bl_apiSpan_ : ∀ w, (Instr.build 41 #[]).run Tryz.prog w = .ok (.agg #[(.int .i64 0), (.int .i64 0)]) w := by
 intro w; simp [Instr.build, Instr.fill, cells_agg, Tryz.runUnderlying41, Tryz.zeroValue41, Tryz.sizeOf3]
theorem hm_bl_apiSpan_0_1 (a0 a1 : Value) (ha0 : a0.oneCell' = true) (ha1 : a1.oneCell' = true) : ∀ w, (Instr.build 41 #[(0, a0), (1, a1)]).run Tryz.prog w = .ok (.agg #[a0, a1]) w := by
 have ea0 : a0.cells = #[a0] := cells_one ha0
 have ea1 : a1.cells = #[a1] := cells_one ha1
 intro w; simp [Instr.build, Instr.fill, cells_agg, Tryz.runUnderlying41, Tryz.zeroValue41, Tryz.sizeOf3, ea0, ea1]
set_option maxRecDepth 100000 in
theorem hull9_any (a b c d : Int) (w : World) : Calls Tryz.prog 85 #[(.agg #[.int .i64 a, .int .i64 b]), (.agg #[.int .i64 c, .int .i64 d])] w (Ret (.tuple #[Sp (hullL a b c d).1 (hullL a b c d).2.1, .int .i64 (hullL a b c d).2.2]) w) := by
 refine calls_ax (vs := [(.agg #[.int .i64 a, .int .i64 b]), (.agg #[.int .i64 c, .int .i64 d])]) Tryz.func85 rfl rfl ?_
 refine ac_seq (ac_region ?_)
 refine al_new (fun b => .pointer (some ⟨b, 0, none⟩)) (r_box rfl rfl) rfl rfl rfl ?_
 intro b1
 refine al_new (fun b => .pointer (some ⟨b, 0, none⟩)) (r_box rfl rfl) rfl rfl rfl ?_
 intro b2
 refine al_new (fun b => .pointer (some ⟨b, 0, none⟩)) (r_alloc Tryz.zeroValue41 rfl) rfl rfl rfl ?_
 intro b3
 refine al_p (q_assign rfl) (al_end (aq_then ?_))
 refine ac_seq (ac_seq (ac_region ?_))
 refine al_p (q_loadAll (i := 2) rfl rfl Tryz.isAgg41 Tryz.sizeOf41 rfl) (al_call Tryz.call31 (.cons rfl .nil) rfl rfl (fun w1 hs1 => ?_))
 refine (valid_any a b _).mono ?_
 rintro e u1 ⟨rfl, hb_1⟩
 refine ⟨_, rfl, hb_1, ?_⟩
 clear hs1
 refine al_p (q_not rfl) (al_p (q_move rfl) ?_)
 refine aq_split 9 rfl (fun hb1 => ?_) (fun hb1 => ?_)
 ·have q1 : vld a b = false := by simpa using hb1
  refine al_skip rfl rfl rfl (al_skip rfl rfl rfl (al_skip rfl rfl rfl (al_p (q_pickT rfl rfl) (al_end (aq_then ?_)))))
  refine ac_condT rfl (ac_seq (ac_region ?_))
  refine al_p (q_build .nil (hm_bl_apiSpan_)) (al_storeAll (i := 0) rfl rfl rfl rfl Tryz.sizeOf41 rfl rfl .k0 rfl (al_p (q_assign rfl) (al_end (aq_then ?_))))
  refine ac_ret (aq_thenR (retR Tryz.results85 (.agg (i := 0) rfl rfl Tryz.isAgg41 Tryz.sizeOf41 rfl (.tmp rfl .nil)) .two (fun w9 hs => ?_)))
  rw [show hullL a b c d = (0, 0, 1) from by unfold hullL; simp [q1]]; exact ⟨rfl, hs.below⟩
 ·have q1 : vld a b = true := by simpa using hb1
  refine al_p (q_loadAll (i := 1) rfl rfl Tryz.isAgg41 Tryz.sizeOf41 rfl) (al_call Tryz.call31 (.cons rfl .nil) rfl rfl (fun w2 hs2 => ?_))
  refine (valid_any c d _).mono ?_
  rintro e u2 ⟨rfl, hb_2⟩
  refine ⟨_, rfl, hb_2, ?_⟩
  clear hs2
  refine al_p (q_not rfl) (al_p (q_pickF rfl rfl) (al_end (aq_then ?_)))
  refine ac_cond rfl (fun h1 => ?_) (fun h1 => ?_)
  ·have q2 : vld c d = false := by simpa using h1
   refine ac_seq (ac_region ?_)
   refine al_p (q_build .nil (hm_bl_apiSpan_)) (al_storeAll (i := 0) rfl rfl rfl rfl Tryz.sizeOf41 rfl rfl .k0 rfl (al_p (q_assign rfl) (al_end (aq_then ?_))))
   refine ac_ret (aq_thenR (retR Tryz.results85 (.agg (i := 0) rfl rfl Tryz.isAgg41 Tryz.sizeOf41 rfl (.tmp rfl .nil)) .two (fun w9 hs => ?_)))
   rw [show hullL a b c d = (0, 0, 1) from by unfold hullL; simp [q1, q2]]; exact ⟨rfl, hs.below⟩
  ·have q2 : vld c d = true := by simpa using h1
   refine ac_skip (aq_then (ac_seq (ac_region ?_)))
   refine al_p (q_fieldAddr 0 rfl Tryz.runUnderlying41 rfl Tryz.sizeOf3 (by decide) rfl) (al_p (q_load (i := 2) rfl rfl rfl Tryz.isAgg3) ?_)
   refine al_p (q_fieldAddr 0 rfl Tryz.runUnderlying41 rfl Tryz.sizeOf3 (by decide) rfl) (al_p (q_load (i := 1) rfl rfl rfl Tryz.isAgg3) (al_p (q_min rfl rfl) ?_))
   refine al_p (q_fieldAddr 1 rfl Tryz.runUnderlying41 rfl Tryz.sizeOf3 (by decide) rfl) (al_p (q_load (i := 2) rfl rfl rfl Tryz.isAgg3) ?_)
   refine al_p (q_fieldAddr 1 rfl Tryz.runUnderlying41 rfl Tryz.sizeOf3 (by decide) rfl) (al_p (q_load (i := 1) rfl rfl rfl Tryz.isAgg3) (al_p (q_max rfl rfl) (al_p (q_build (.cons rfl (.cons rfl .nil)) (hm_bl_apiSpan_0_1 _ _ rfl rfl)) (al_storeAll (i := 0) rfl rfl rfl rfl Tryz.sizeOf41 rfl rfl .k0 rfl ?_))))
   refine al_p (q_assign rfl) (al_end (aq_then ?_))
   refine ac_ret (retR Tryz.results85 (.agg (i := 0) rfl rfl Tryz.isAgg41 Tryz.sizeOf41 rfl (.tmp rfl .nil)) .two (fun w9 hs => ?_))
   rw [show hullL a b c d = (min a c, max b d, 0) from by unfold hullL; simp [q1, q2]]; exact ⟨rfl, hs.below⟩
set_option maxRecDepth 100000 in
theorem rhull9_any (a b c d : Int) (w : World) : Calls Tryz.prog 87 #[(.agg #[.int .i64 a, .int .i64 b]), (.agg #[.int .i64 c, .int .i64 d])] w (Ret (.tuple #[Sp (hullL a b c d).1 (hullL a b c d).2.1, .int .i64 (hullL a b c d).2.2]) w) := by
 refine calls_ax (vs := [(.agg #[.int .i64 a, .int .i64 b]), (.agg #[.int .i64 c, .int .i64 d])]) Tryz.func87 rfl rfl ?_
 refine ac_seq (ac_region ?_)
 refine al_new (fun b => .pointer (some ⟨b, 0, none⟩)) (r_box rfl rfl) rfl rfl rfl ?_
 intro b1
 refine al_new (fun b => .pointer (some ⟨b, 0, none⟩)) (r_box rfl rfl) rfl rfl rfl ?_
 intro b2
 refine al_new (fun b => .pointer (some ⟨b, 0, none⟩)) (r_alloc Tryz.zeroValue41 rfl) rfl rfl rfl ?_
 intro b3
 refine al_p (q_assign rfl) (al_end (aq_then ?_))
 refine ac_seq (ac_seq (ac_region ?_))
 refine al_p (q_loadAll (i := 2) rfl rfl Tryz.isAgg41 Tryz.sizeOf41 rfl) (al_call Tryz.call81 (.cons rfl .nil) rfl rfl (fun w1 hs1 => ?_))
 refine (rvalid_any a b _).mono ?_
 rintro e u1 ⟨rfl, hb_1⟩
 refine ⟨_, rfl, hb_1, ?_⟩
 clear hs1
 refine al_p (q_not rfl) (al_p (q_move rfl) ?_)
 refine aq_split 9 rfl (fun hb1 => ?_) (fun hb1 => ?_)
 ·have q1 : vld a b = false := by simpa using hb1
  refine al_skip rfl rfl rfl (al_skip rfl rfl rfl (al_skip rfl rfl rfl (al_p (q_pickT rfl rfl) (al_end (aq_then ?_)))))
  refine ac_condT rfl (ac_seq (ac_region ?_))
  refine al_p (q_build .nil (hm_bl_apiSpan_)) (al_storeAll (i := 0) rfl rfl rfl rfl Tryz.sizeOf41 rfl rfl .k0 rfl (al_p (q_assign rfl) (al_end (aq_then ?_))))
  refine ac_ret (aq_thenR (retR Tryz.results87 (.agg (i := 0) rfl rfl Tryz.isAgg41 Tryz.sizeOf41 rfl (.tmp rfl .nil)) .two (fun w9 hs => ?_)))
  rw [show hullL a b c d = (0, 0, 1) from by unfold hullL; simp [q1]]; exact ⟨rfl, hs.below⟩
 ·have q1 : vld a b = true := by simpa using hb1
  refine al_p (q_loadAll (i := 1) rfl rfl Tryz.isAgg41 Tryz.sizeOf41 rfl) (al_call Tryz.call81 (.cons rfl .nil) rfl rfl (fun w2 hs2 => ?_))
  refine (rvalid_any c d _).mono ?_
  rintro e u2 ⟨rfl, hb_2⟩
  refine ⟨_, rfl, hb_2, ?_⟩
  clear hs2
  refine al_p (q_not rfl) (al_p (q_pickF rfl rfl) (al_end (aq_then ?_)))
  refine ac_cond rfl (fun h1 => ?_) (fun h1 => ?_)
  ·have q2 : vld c d = false := by simpa using h1
   refine ac_seq (ac_region ?_)
   refine al_p (q_build .nil (hm_bl_apiSpan_)) (al_storeAll (i := 0) rfl rfl rfl rfl Tryz.sizeOf41 rfl rfl .k0 rfl (al_p (q_assign rfl) (al_end (aq_then ?_))))
   refine ac_ret (aq_thenR (retR Tryz.results87 (.agg (i := 0) rfl rfl Tryz.isAgg41 Tryz.sizeOf41 rfl (.tmp rfl .nil)) .two (fun w9 hs => ?_)))
   rw [show hullL a b c d = (0, 0, 1) from by unfold hullL; simp [q1, q2]]; exact ⟨rfl, hs.below⟩
  ·have q2 : vld c d = true := by simpa using h1
   refine ac_skip (aq_then (ac_seq (ac_drawK 1 12 rfl (by kernel_rfl) (by kernel_rfl) ?_)))
   refine ah_t 0 (fun w9 hs => (hs.tail 1 rfl)) rfl rfl (by kernel_rfl) (q_fieldAddr 0 rfl Tryz.runUnderlying41 rfl Tryz.sizeOf3 (by decide) rfl) (ah_t 1 (fun w9 hs => (hs.tail 1 rfl)) rfl rfl (by kernel_rfl) (q_load (i := 1) rfl rfl rfl Tryz.isAgg3) ?_)
   refine ah_t 2 (fun w9 hs => (hs.tail 1 rfl)) rfl rfl (by kernel_rfl) (q_fieldAddr 0 rfl Tryz.runUnderlying41 rfl Tryz.sizeOf3 (by decide) rfl) (ah_t 3 (fun w9 hs => (hs.tail 1 rfl)) rfl rfl (by kernel_rfl) (q_load (i := 0) rfl rfl rfl Tryz.isAgg3) ?_)
   refine ah_t 5 (fun w9 hs => (hs.tail 1 rfl)) rfl rfl (by kernel_rfl) (q_fieldAddr 1 rfl Tryz.runUnderlying41 rfl Tryz.sizeOf3 (by decide) rfl) (ah_t 6 (fun w9 hs => (hs.tail 1 rfl)) rfl rfl (by kernel_rfl) (q_load (i := 1) rfl rfl rfl Tryz.isAgg3) ?_)
   refine ah_t 7 (fun w9 hs => (hs.tail 1 rfl)) rfl rfl (by kernel_rfl) (q_fieldAddr 1 rfl Tryz.runUnderlying41 rfl Tryz.sizeOf3 (by decide) rfl) (ah_t 8 (fun w9 hs => (hs.tail 1 rfl)) rfl rfl (by kernel_rfl) (q_load (i := 0) rfl rfl rfl Tryz.isAgg3) (ah_one 4 rfl (by kernel_rfl) (fun hok1 hcl1 => ?_)))
   refine al_call Tryz.call83 (.cons rfl (.cons rfl .nil)) rfl rfl (fun w3 hs3 => ?_)
   refine (least_any a c _).mono ?_
   rintro e u3 ⟨rfl, rfl⟩
   refine ⟨_, rfl, (Below.refl _ _), ?_⟩
   clear hs3
   refine al_end (ah_back hok1 hcl1 (fun w9 hs => ((hs.fewer 1 rfl).tail 1 rfl)) ?_)
   refine ah_one 9 rfl (by kernel_rfl) (fun hok2 hcl2 => ?_)
   refine al_call Tryz.call82 (.cons rfl (.cons rfl .nil)) rfl rfl (fun w4 hs4 => ?_)
   refine (most_any b d _).mono ?_
   rintro e u4 ⟨rfl, rfl⟩
   refine ⟨_, rfl, (Below.refl _ _), ?_⟩
   clear hs4
   refine al_end (ah_back hok2 hcl2 (fun w9 hs => ((hs.fewer 2 rfl).tail 1 rfl)) ?_)
   refine ah_t 10 (fun w9 hs => ((hs.fewer 2 rfl).tail 1 rfl)) rfl rfl (by kernel_rfl) (q_build (.cons rfl (.cons rfl .nil)) (hm_bl_apiSpan_0_1 _ _ rfl rfl)) (ah_one 11 rfl (by kernel_rfl) (fun hok3 hcl3 => ?_))
   refine al_storeAll (i := 0) rfl rfl rfl rfl Tryz.sizeOf41 rfl rfl .k0 rfl (al_end (ah_back hok3 hcl3 (fun w9 hs => ((hs.fewer 2 rfl).tail 1 rfl)) ?_))
   refine ah_one 12 rfl (by kernel_rfl) (fun hok4 hcl4 => ?_)
   refine al_p (q_assign rfl) (al_end (ah_last (by kernel_rfl) ?_))
   refine aq_then (ac_ret (retR Tryz.results87 (.agg (i := 0) rfl rfl Tryz.isAgg41 Tryz.sizeOf41 rfl (.tmp rfl .nil)) .two (fun w9 hs => ?_)))
   rw [show hullL a b c d = (min a c, max b d, 0) from by unfold hullL; simp [q1, q2]]; exact ⟨rfl, hs.below⟩
set_option maxRecDepth 100000 in
theorem meet9_any (a b c d : Int) (w : World) : Calls Tryz.prog 80 #[(.agg #[.int .i64 a, .int .i64 b]), (.agg #[.int .i64 c, .int .i64 d])] w (Ret (.tuple #[Sp (meetL a b c d).1 (meetL a b c d).2.1, .int .i64 (meetL a b c d).2.2]) w) := by
 refine calls_ax (vs := [(.agg #[.int .i64 a, .int .i64 b]), (.agg #[.int .i64 c, .int .i64 d])]) Tryz.func80 rfl rfl ?_
 refine ac_seq (ac_region ?_)
 refine al_new (fun b => .pointer (some ⟨b, 0, none⟩)) (r_box rfl rfl) rfl rfl rfl ?_
 intro b1
 refine al_new (fun b => .pointer (some ⟨b, 0, none⟩)) (r_box rfl rfl) rfl rfl rfl ?_
 intro b2
 refine al_new (fun b => .pointer (some ⟨b, 0, none⟩)) (r_alloc Tryz.zeroValue41 rfl) rfl rfl rfl ?_
 intro b3
 refine al_p (q_assign rfl) (al_end (aq_then ?_))
 refine ac_seq (ac_seq (ac_region ?_))
 refine al_p (q_loadAll (i := 2) rfl rfl Tryz.isAgg41 Tryz.sizeOf41 rfl) (al_call Tryz.call31 (.cons rfl .nil) rfl rfl (fun w1 hs1 => ?_))
 refine (valid_any a b _).mono ?_
 rintro e u1 ⟨rfl, hb_1⟩
 refine ⟨_, rfl, hb_1, ?_⟩
 clear hs1
 refine al_p (q_not rfl) (al_p (q_move rfl) ?_)
 refine aq_split 10 rfl (fun hb1 => ?_) (fun hb1 => ?_)
 ·have q1 : vld a b = false := by simpa using hb1
  refine al_skip rfl rfl rfl (al_skip rfl rfl rfl (al_skip rfl rfl rfl (al_p (q_pickT rfl rfl) (al_end (aq_then ?_)))))
  refine ac_condT rfl (ac_seq (ac_region ?_))
  refine al_p (q_build .nil (hm_bl_apiSpan_)) (al_storeAll (i := 0) rfl rfl rfl rfl Tryz.sizeOf41 rfl rfl .k0 rfl (al_p (q_assign rfl) (al_end (aq_then ?_))))
  refine ac_ret (aq_thenR (retR Tryz.results80 (.agg (i := 0) rfl rfl Tryz.isAgg41 Tryz.sizeOf41 rfl (.tmp rfl .nil)) .two (fun w9 hs => ?_)))
  rw [show meetL a b c d = (0, 0, 1) from by unfold meetL; simp [q1]]; exact ⟨rfl, hs.below⟩
 ·have q1 : vld a b = true := by simpa using hb1
  refine al_p (q_loadAll (i := 1) rfl rfl Tryz.isAgg41 Tryz.sizeOf41 rfl) (al_call Tryz.call31 (.cons rfl .nil) rfl rfl (fun w2 hs2 => ?_))
  refine (valid_any c d _).mono ?_
  rintro e u2 ⟨rfl, hb_2⟩
  refine ⟨_, rfl, hb_2, ?_⟩
  clear hs2
  refine al_p (q_not rfl) (al_p (q_pickF rfl rfl) (al_end (aq_then ?_)))
  refine ac_cond rfl (fun h1 => ?_) (fun h1 => ?_)
  ·have q2 : vld c d = false := by simpa using h1
   refine ac_seq (ac_region ?_)
   refine al_p (q_build .nil (hm_bl_apiSpan_)) (al_storeAll (i := 0) rfl rfl rfl rfl Tryz.sizeOf41 rfl rfl .k0 rfl (al_p (q_assign rfl) (al_end (aq_then ?_))))
   refine ac_ret (aq_thenR (retR Tryz.results80 (.agg (i := 0) rfl rfl Tryz.isAgg41 Tryz.sizeOf41 rfl (.tmp rfl .nil)) .two (fun w9 hs => ?_)))
   rw [show meetL a b c d = (0, 0, 1) from by unfold meetL; simp [q1, q2]]; exact ⟨rfl, hs.below⟩
  ·have q2 : vld c d = true := by simpa using h1
   refine ac_skip (aq_then (ac_seq (ac_region ?_)))
   refine al_p (q_fieldAddr 0 rfl Tryz.runUnderlying41 rfl Tryz.sizeOf3 (by decide) rfl) (al_p (q_load (i := 2) rfl rfl rfl Tryz.isAgg3) ?_)
   refine al_p (q_fieldAddr 0 rfl Tryz.runUnderlying41 rfl Tryz.sizeOf3 (by decide) rfl) (al_p (q_load (i := 1) rfl rfl rfl Tryz.isAgg3) (al_p (q_max rfl rfl) ?_))
   refine al_p (q_fieldAddr 1 rfl Tryz.runUnderlying41 rfl Tryz.sizeOf3 (by decide) rfl) (al_p (q_load (i := 2) rfl rfl rfl Tryz.isAgg3) ?_)
   refine al_p (q_fieldAddr 1 rfl Tryz.runUnderlying41 rfl Tryz.sizeOf3 (by decide) rfl) (al_p (q_load (i := 1) rfl rfl rfl Tryz.isAgg3) (al_p (q_min rfl rfl) (al_p (q_build (.cons rfl (.cons rfl .nil)) (hm_bl_apiSpan_0_1 _ _ rfl rfl)) (al_new (fun b => .pointer (some ⟨b, 0, none⟩)) (r_alloc Tryz.zeroValue41 rfl) rfl rfl rfl ?_))))
   intro b4
   refine al_storeAll (i := 0) rfl rfl rfl rfl Tryz.sizeOf41 rfl rfl .k0 rfl (al_end (aq_then ?_))
   refine ac_seq (ac_seq (ac_region ?_))
   refine al_p (q_loadAll (i := 0) rfl rfl Tryz.isAgg41 Tryz.sizeOf41 rfl) (al_call Tryz.call31 (.cons rfl .nil) rfl rfl (fun w3 hs3 => ?_))
   refine (valid_any (max a c) (min b d) _).mono ?_
   rintro e u3 ⟨rfl, hb_3⟩
   refine ⟨_, rfl, hb_3, ?_⟩
   clear hs3
   refine al_p (q_not rfl) (al_end (aq_then ?_))
   refine ac_cond rfl (fun h2 => ?_) (fun h2 => ?_)
   ·have q3 : ¬ max a c ≤ min b d := fun h9 => by rw [show vld (max a c) (min b d) = true from vld_iff.2 (by have := vld_iff.1 q1; have := vld_iff.1 q2; omega)] at h2; cases h2
    refine ac_seq (ac_region ?_)
    refine al_p (q_build .nil (hm_bl_apiSpan_)) (al_storeAll (i := 1) rfl rfl rfl rfl Tryz.sizeOf41 rfl rfl .k1 rfl (al_p (q_assign rfl) (al_end (aq_then ?_))))
    refine ac_ret (aq_thenR (retR Tryz.results80 (.agg (i := 1) rfl rfl Tryz.isAgg41 Tryz.sizeOf41 rfl (.tmp rfl .nil)) .two (fun w9 hs => ?_)))
    rw [show meetL a b c d = (0, 0, 8) from by unfold meetL; simp [q1, q2, q3]]; exact ⟨rfl, hs.below⟩
   ·have q3 : max a c ≤ min b d := by have := vld_iff.1 (by simpa using h2 : vld (max a c) (min b d) = true); omega
    refine ac_skip (aq_then (ac_seq (ac_region ?_)))
    refine al_p (q_loadAll (i := 0) rfl rfl Tryz.isAgg41 Tryz.sizeOf41 rfl) (al_storeAll (i := 1) rfl rfl rfl rfl Tryz.sizeOf41 rfl rfl .k1 rfl (al_p (q_assign rfl) (al_end (aq_then ?_))))
    refine ac_ret (retR Tryz.results80 (.agg (i := 1) rfl rfl Tryz.isAgg41 Tryz.sizeOf41 rfl (.tmp rfl .nil)) .two (fun w9 hs => ?_))
    rw [show meetL a b c d = (max a c, min b d, 0) from by unfold meetL; simp [q1, q2, q3]]; exact ⟨rfl, hs.below⟩
set_option maxRecDepth 100000 in
theorem rmeet9_any (a b c d : Int) (w : World) : Calls Tryz.prog 45 #[(.agg #[.int .i64 a, .int .i64 b]), (.agg #[.int .i64 c, .int .i64 d])] w (Ret (.tuple #[Sp (meetL a b c d).1 (meetL a b c d).2.1, .int .i64 (meetL a b c d).2.2]) w) := by
 refine calls_ax (vs := [(.agg #[.int .i64 a, .int .i64 b]), (.agg #[.int .i64 c, .int .i64 d])]) Tryz.func45 rfl rfl ?_
 refine ac_seq (ac_region ?_)
 refine al_new (fun b => .pointer (some ⟨b, 0, none⟩)) (r_box rfl rfl) rfl rfl rfl ?_
 intro b1
 refine al_new (fun b => .pointer (some ⟨b, 0, none⟩)) (r_box rfl rfl) rfl rfl rfl ?_
 intro b2
 refine al_new (fun b => .pointer (some ⟨b, 0, none⟩)) (r_alloc Tryz.zeroValue41 rfl) rfl rfl rfl ?_
 intro b3
 refine al_p (q_assign rfl) (al_end (aq_then ?_))
 refine ac_seq (ac_seq (ac_region ?_))
 refine al_p (q_loadAll (i := 2) rfl rfl Tryz.isAgg41 Tryz.sizeOf41 rfl) (al_call Tryz.call81 (.cons rfl .nil) rfl rfl (fun w1 hs1 => ?_))
 refine (rvalid_any a b _).mono ?_
 rintro e u1 ⟨rfl, hb_1⟩
 refine ⟨_, rfl, hb_1, ?_⟩
 clear hs1
 refine al_p (q_not rfl) (al_p (q_move rfl) ?_)
 refine aq_split 10 rfl (fun hb1 => ?_) (fun hb1 => ?_)
 ·have q1 : vld a b = false := by simpa using hb1
  refine al_skip rfl rfl rfl (al_skip rfl rfl rfl (al_skip rfl rfl rfl (al_p (q_pickT rfl rfl) (al_end (aq_then ?_)))))
  refine ac_condT rfl (ac_seq (ac_region ?_))
  refine al_p (q_build .nil (hm_bl_apiSpan_)) (al_storeAll (i := 0) rfl rfl rfl rfl Tryz.sizeOf41 rfl rfl .k0 rfl (al_p (q_assign rfl) (al_end (aq_then ?_))))
  refine ac_ret (aq_thenR (retR Tryz.results45 (.agg (i := 0) rfl rfl Tryz.isAgg41 Tryz.sizeOf41 rfl (.tmp rfl .nil)) .two (fun w9 hs => ?_)))
  rw [show meetL a b c d = (0, 0, 1) from by unfold meetL; simp [q1]]; exact ⟨rfl, hs.below⟩
 ·have q1 : vld a b = true := by simpa using hb1
  refine al_p (q_loadAll (i := 1) rfl rfl Tryz.isAgg41 Tryz.sizeOf41 rfl) (al_call Tryz.call81 (.cons rfl .nil) rfl rfl (fun w2 hs2 => ?_))
  refine (rvalid_any c d _).mono ?_
  rintro e u2 ⟨rfl, hb_2⟩
  refine ⟨_, rfl, hb_2, ?_⟩
  clear hs2
  refine al_p (q_not rfl) (al_p (q_pickF rfl rfl) (al_end (aq_then ?_)))
  refine ac_cond rfl (fun h1 => ?_) (fun h1 => ?_)
  ·have q2 : vld c d = false := by simpa using h1
   refine ac_seq (ac_region ?_)
   refine al_p (q_build .nil (hm_bl_apiSpan_)) (al_storeAll (i := 0) rfl rfl rfl rfl Tryz.sizeOf41 rfl rfl .k0 rfl (al_p (q_assign rfl) (al_end (aq_then ?_))))
   refine ac_ret (aq_thenR (retR Tryz.results45 (.agg (i := 0) rfl rfl Tryz.isAgg41 Tryz.sizeOf41 rfl (.tmp rfl .nil)) .two (fun w9 hs => ?_)))
   rw [show meetL a b c d = (0, 0, 1) from by unfold meetL; simp [q1, q2]]; exact ⟨rfl, hs.below⟩
  ·have q2 : vld c d = true := by simpa using h1
   refine ac_skip (aq_then (ac_seq (ac_draw 12 (by kernel_rfl) (by kernel_rfl) ?_)))
   refine ah_share (fuel' := 1) (listed' := #[true, true, true, true, true, true, true, true, true, true, true, true, false]) (fun K => ∀ (b6001 : Nat), K [(2, (.pointer (some ⟨b1, 0, none⟩))), (3, (.pointer (some ⟨b2, 0, none⟩))), (4, (.pointer (some ⟨b3, 0, none⟩))), (5, (.int .i64 0)), (6, (.pointer (some ⟨b6001, 0, none⟩))), (16, (.pointer (some ⟨b1, 0, none⟩))), (17, (.int .i64 a)), (18, (.pointer (some ⟨b2, 0, none⟩))), (19, (.int .i64 c)), (20, (.int .i64 (max a c))), (21, (.pointer (some ⟨b1, 1, none⟩))), (22, (.int .i64 b)), (23, (.pointer (some ⟨b2, 1, none⟩))), (24, (.int .i64 d)), (25, (.int .i64 (min b d))), (26, (.agg #[(.int .i64 (max a c)), (.int .i64 (min b d))]))] [(b6001, .cells [(.int .i64 0), (.int .i64 0)]), (b3, .cells [(.int .i64 0), (.int .i64 0)]), (b2, .cells [(.int .i64 c), (.int .i64 d)]), (b1, .cells [(.int .i64 a), (.int .i64 b)])]) ?_ (fun hS1_0 => ?_)
   ·intro b6001
    refine ah_one 12 rfl (by kernel_rfl) (fun hok1 hcl1 => ?_)
    refine al_storeAll (i := 0) rfl rfl rfl rfl Tryz.sizeOf41 rfl rfl .k0 rfl (al_end (ah_last (by kernel_rfl) ?_))
    refine aq_then (ac_seq (ac_seq (ac_region ?_)))
    refine al_p (q_fieldAddr 0 rfl Tryz.runUnderlying41 rfl Tryz.sizeOf3 (by decide) rfl) (al_p (q_load (i := 0) rfl rfl rfl Tryz.isAgg3) ?_)
    refine al_p (q_fieldAddr 1 rfl Tryz.runUnderlying41 rfl Tryz.sizeOf3 (by decide) rfl) (al_p (q_load (i := 0) rfl rfl rfl Tryz.isAgg3) (al_p (q_gtr rfl rfl) (al_end (aq_then ?_))))
    refine ac_cond rfl (fun h2 => ?_) (fun h2 => ?_)
    ·have q3 : ¬ max a c ≤ min b d := by have := of_decide_eq_true h2; omega
     refine ac_seq (ac_region ?_)
     refine al_p (q_build .nil (hm_bl_apiSpan_)) (al_storeAll (i := 1) rfl rfl rfl rfl Tryz.sizeOf41 rfl rfl .k1 rfl (al_p (q_assign rfl) (al_end (aq_then ?_))))
     refine ac_ret (aq_thenR (retR Tryz.results45 (.agg (i := 1) rfl rfl Tryz.isAgg41 Tryz.sizeOf41 rfl (.tmp rfl .nil)) .two (fun w9 hs => ?_)))
     rw [show meetL a b c d = (0, 0, 8) from by unfold meetL; simp [q1, q2, q3]]; exact ⟨rfl, hs.below⟩
    ·have q3 : max a c ≤ min b d := by have := of_decide_eq_false h2; omega
     refine ac_skip (aq_then (ac_seq (ac_region ?_)))
     refine al_p (q_loadAll (i := 0) rfl rfl Tryz.isAgg41 Tryz.sizeOf41 rfl) (al_storeAll (i := 1) rfl rfl rfl rfl Tryz.sizeOf41 rfl rfl .k1 rfl (al_p (q_assign rfl) (al_end (aq_then ?_))))
     refine ac_ret (retR Tryz.results45 (.agg (i := 1) rfl rfl Tryz.isAgg41 Tryz.sizeOf41 rfl (.tmp rfl .nil)) .two (fun w9 hs => ?_))
     rw [show meetL a b c d = (max a c, min b d, 0) from by unfold meetL; simp [q1, q2, q3]]; exact ⟨rfl, hs.below⟩
   refine ah_share (fuel' := 3) (listed' := #[true, true, true, true, true, true, true, true, true, false, false, true, false]) (fun K => ∀ (b4001 : Nat), K [(2, (.pointer (some ⟨b1, 0, none⟩))), (3, (.pointer (some ⟨b2, 0, none⟩))), (4, (.pointer (some ⟨b3, 0, none⟩))), (5, (.int .i64 0)), (6, (.pointer (some ⟨b4001, 0, none⟩))), (16, (.pointer (some ⟨b1, 0, none⟩))), (17, (.int .i64 a)), (18, (.pointer (some ⟨b2, 0, none⟩))), (19, (.int .i64 c)), (20, (.int .i64 (max a c))), (21, (.pointer (some ⟨b1, 1, none⟩))), (22, (.int .i64 b)), (23, (.pointer (some ⟨b2, 1, none⟩))), (24, (.int .i64 d))] [(b4001, .cells [(.int .i64 0), (.int .i64 0)]), (b3, .cells [(.int .i64 0), (.int .i64 0)]), (b2, .cells [(.int .i64 c), (.int .i64 d)]), (b1, .cells [(.int .i64 a), (.int .i64 b)])]) ?_ (fun hS1_1 => ?_)
   ·intro b4001
    refine ah_one 9 rfl (by kernel_rfl) (fun hok2 hcl2 => ?_)
    refine al_call Tryz.call83 (.cons rfl (.cons rfl .nil)) rfl rfl (fun w7 hs7 => ?_)
    refine (least_any b d _).mono ?_
    rintro e u7 ⟨rfl, rfl⟩
    refine ⟨_, rfl, (Below.refl _ _), ?_⟩
    clear hs7
    refine al_end (ah_back hok2 hcl2 (fun w9 hs => ((hs.fewer 1 rfl).tail 1 rfl)) ?_)
    refine ah_few ?_
    refine ah_t 10 (fun w9 hs => (hs.tail 1 rfl)) rfl rfl (by kernel_rfl) (q_build (.cons rfl (.cons rfl .nil)) (hm_bl_apiSpan_0_1 _ _ rfl rfl)) ?_
    exact ah_to (hS1_0 b4001) rfl (by kernel_rfl) ⟨rfl, rfl, rfl, rfl, rfl, rfl, rfl, rfl, rfl, rfl, rfl, rfl, rfl, rfl, rfl, rfl, trivial⟩ (fun w9 hs => hs)
   ·refine ah_t 0 (fun w9 hs => hs) rfl rfl (by kernel_rfl) (q_fieldAddr 0 rfl Tryz.runUnderlying41 rfl Tryz.sizeOf3 (by decide) rfl) (ah_t 1 (fun w9 hs => hs) rfl rfl (by kernel_rfl) (q_load (i := 2) rfl rfl rfl Tryz.isAgg3) ?_)
    refine ah_t 2 (fun w9 hs => hs) rfl rfl (by kernel_rfl) (q_fieldAddr 0 rfl Tryz.runUnderlying41 rfl Tryz.sizeOf3 (by decide) rfl) (ah_t 3 (fun w9 hs => hs) rfl rfl (by kernel_rfl) (q_load (i := 1) rfl rfl rfl Tryz.isAgg3) ?_)
    refine ah_t 5 (fun w9 hs => hs) rfl rfl (by kernel_rfl) (q_fieldAddr 1 rfl Tryz.runUnderlying41 rfl Tryz.sizeOf3 (by decide) rfl) (ah_t 6 (fun w9 hs => hs) rfl rfl (by kernel_rfl) (q_load (i := 2) rfl rfl rfl Tryz.isAgg3) ?_)
    refine ah_t 7 (fun w9 hs => hs) rfl rfl (by kernel_rfl) (q_fieldAddr 1 rfl Tryz.runUnderlying41 rfl Tryz.sizeOf3 (by decide) rfl) (ah_t 8 (fun w9 hs => hs) rfl rfl (by kernel_rfl) (q_load (i := 1) rfl rfl rfl Tryz.isAgg3) ?_)
    refine ah_two 4 11 rfl rfl  (by kernel_rfl) (fun hok3 hcl3 => ?_) (fun hok3 hcl3 => ?_)
    ·refine al_call Tryz.call82 (.cons rfl (.cons rfl .nil)) rfl rfl (fun w8 hs8 => ?_)
     refine (most_any a c _).mono ?_
     rintro e u8 ⟨rfl, rfl⟩
     refine ⟨_, rfl, (Below.refl _ _), ?_⟩
     clear hs8
     refine al_end (ah_back hok3 hcl3 (fun w9 hs => (hs.fewer 1 rfl)) ?_)
     refine ah_few ?_
     refine ah_two 9 11 rfl rfl  (by kernel_rfl) (fun hok4 hcl4 => ?_) (fun hok4 hcl4 => ?_)
     ·refine al_call Tryz.call83 (.cons rfl (.cons rfl .nil)) rfl rfl (fun w9 hs9 => ?_)
      refine (least_any b d _).mono ?_
      rintro e u9 ⟨rfl, rfl⟩
      refine ⟨_, rfl, (Below.refl _ _), ?_⟩
      clear hs9
      refine al_end (ah_back hok4 hcl4 (fun w9 hs => (hs.fewer 1 rfl)) ?_)
      refine ah_few ?_
      refine ah_t 10 (fun w9 hs => hs) rfl rfl (by kernel_rfl) (q_build (.cons rfl (.cons rfl .nil)) (hm_bl_apiSpan_0_1 _ _ rfl rfl)) (ah_one 11 rfl (by kernel_rfl) (fun hok5 hcl5 => ?_))
      refine al_new (fun b => .pointer (some ⟨b, 0, none⟩)) (r_alloc Tryz.zeroValue41 rfl) rfl rfl rfl ?_
      intro b4
      refine al_end (ah_back hok5 hcl5 (fun w9 hs => (hs.tail 1 rfl)) ?_)
      exact ah_to (hS1_0 b4) rfl (by kernel_rfl) ⟨rfl, rfl, rfl, rfl, rfl, rfl, rfl, rfl, rfl, rfl, rfl, rfl, rfl, rfl, rfl, rfl, trivial⟩ (fun w9 hs => hs)
     ·refine al_new (fun b => .pointer (some ⟨b, 0, none⟩)) (r_alloc Tryz.zeroValue41 rfl) rfl rfl rfl ?_
      intro b5
      refine al_end (ah_back hok4 hcl4 (fun w9 hs => (hs.tail 1 rfl)) ?_)
      exact ah_to (hS1_1 b5) rfl (by kernel_rfl) ⟨rfl, rfl, rfl, rfl, rfl, rfl, rfl, rfl, rfl, rfl, rfl, rfl, rfl, rfl, trivial⟩ (fun w9 hs => hs)
    ·refine al_new (fun b => .pointer (some ⟨b, 0, none⟩)) (r_alloc Tryz.zeroValue41 rfl) rfl rfl rfl ?_
     intro b6
     refine al_end (ah_back hok3 hcl3 (fun w9 hs => (hs.tail 1 rfl)) ?_)
     refine ah_one 4 rfl (by kernel_rfl) (fun hok6 hcl6 => ?_)
     refine al_call Tryz.call82 (.cons rfl (.cons rfl .nil)) rfl rfl (fun w10 hs10 => ?_)
     refine (most_any a c _).mono ?_
     rintro e u10 ⟨rfl, rfl⟩
     refine ⟨_, rfl, (Below.refl _ _), ?_⟩
     clear hs10
     refine al_end (ah_back hok6 hcl6 (fun w9 hs => ((hs.fewer 1 rfl).tail 1 rfl)) ?_)
     refine ah_few ?_
     exact ah_to (hS1_1 b6) rfl (by kernel_rfl) ⟨rfl, rfl, rfl, rfl, rfl, rfl, rfl, rfl, rfl, rfl, rfl, rfl, rfl, rfl, trivial⟩ (fun w9 hs => hs)
theorem hull_pair (a b c d : Int) (w : World) (h1 : vld a b = true) (h2 : vld c d = true) : Calls Tryz.prog 85 #[Sp a b, Sp c d] w (Ret (.tuple #[Sp (min a c) (max b d), .int .i64 0]) w) := by
 have := hull9_any a b c d w
 unfold hullL at this; rw [h1, h2] at this; exact this
theorem rhull_pair (a b c d : Int) (w : World) (h1 : vld a b = true) (h2 : vld c d = true) : Calls Tryz.prog 87 #[Sp a b, Sp c d] w (Ret (.tuple #[Sp (min a c) (max b d), .int .i64 0]) w) := by
 have := rhull9_any a b c d w
 unfold hullL at this; rw [h1, h2] at this; exact this
end
section
open Go.RowKit Go.Shelf
set_option maxHeartbeats 2000000 in
theorem validFaults_nil (R : MachR) (M : MachD) (w : World) (hM : IsM w R M) (hc : checkC M = 0) :
  Calls Tryz.prog 57 #[.agg (machCells R M), .slice none 0 0] w (Ret (.bool true) w) := by
 have H0 := Lib.hid (fun W (hb : Below w.heap.size w W) => by have := check_any R M W (hM.below hb); rw [hc] at this; exact this)
 have HF := Lib.hid (fun (c0 : Nat) W => containsFault1 99 c0 (fun _ => false) none 0 0 [] W (IsT.nil _ _ _ _) (by omega) (fun args W => enters_of Tryz.func99 (by kernel_rfl) rfl args W) (fun x W' hx => by cases hx))
 clear hM hc
 obtain ⟨A, B, C, D, la, ca, lb, cb, lc, cc, ld, cd⟩ := R
 obtain ⟨name, coils, shells, limits, ⟨r, z, nr, nz, step⟩, sensors⟩ := M
 have H0 := Lib.hid (show ∀ W, Below w.heap.size w W → Calls Tryz.prog 84 #[.agg #[.string name, .slice A la ca, .slice B lb cb, .slice C lc cc, .int .i64 r, .int .i64 z, .int .i64 nr, .int .i64 nz, .int .i64 step, .slice D ld cd]] W (Ret (.int .i64 0) W) from H0.out)
 show Calls Tryz.prog 57 #[.agg #[.string name, .slice A la ca, .slice B lb cb, .slice C lc cc, .int .i64 r, .int .i64 z, .int .i64 nr, .int .i64 nz, .int .i64 step, .slice D ld cd], .slice none 0 0] w _
 go_enter Tryz.func57, Tryz.ntmps57
 go_wp2_with (first | (go_at_call 84; refine (H0.out _ (by (repeat first | with_reducible exact Below.refl _ _ | (with_reducible refine Below.alloc ?_ ?_ _; rotate_left; exact (by omega))))).mono ?_; rintro e w1 ⟨rfl, hb⟩; have hB : Below w.heap.size w w1 := Below.trans (by (repeat first | with_reducible exact Below.refl _ _ | (with_reducible refine Below.alloc ?_ ?_ _; rotate_left; exact (by omega)))) (hb.mono (by (simp; done))); obtain ⟨hc, hf⟩ := bcell hb; have hs := hb.size; clear hb; (try simp only [World.size_alloc, World.size_setCell] at hc hf); (try simp only [World.size_alloc, World.size_setCell] at hs); (try have hs' := Nat.lt_of_succ_le hs); (try have hs0 : w.heap.size < w1.heap.size := by omega); (try have hs1 : w.heap.size + 1 < w1.heap.size := by omega); (try have hs2 : w.heap.size + 1 + 1 < w1.heap.size := by omega); (try have hs3 : w.heap.size + 1 + 1 + 1 < w1.heap.size := by omega)) | (go_at_call 98; refine (HF.out _ _).mono ?_; rintro e w1 ⟨rfl, hb⟩; have hB : Below w.heap.size w w1 := Below.trans (by (repeat with_reducible assumption)) (hb.mono (by omega)); obtain ⟨hc, hf⟩ := bcell hb; have hs := hb.size; clear hb; (try simp only [World.size_alloc, World.size_setCell] at hc hf); (try simp only [World.size_alloc, World.size_setCell] at hs); (try have hs' := Nat.lt_of_succ_le hs); (try have hs0 : w.heap.size < w1.heap.size := by omega); (try have hs1 : w.heap.size + 1 < w1.heap.size := by omega); (try have hs2 : w.heap.size + 1 + 1 < w1.heap.size := by omega); (try have hs3 : w.heap.size + 1 + 1 + 1 < w1.heap.size := by omega)))
 go_ret
 exact ⟨rfl, by (repeat with_reducible assumption)⟩
set_option maxHeartbeats 1000000 in
theorem faulty_nil (v k t : Int) (w : World) :
  Calls Tryz.prog 59 #[.int .i64 v, .slice none 0 0, .int .i64 k, .int .i64 t] w fun e w' => e = .returned (.int .i64 v) ∧ w = w' := by
 go_enter Tryz.func59, Tryz.ntmps59
 go_wp2
 go_loop [0, 13] (fun x i => x = .int .i64 v ∧ i = .int .i64 0) (fun _ _ => 0)
 case atStart => exact ⟨rfl, rfl⟩
 case round =>
  obtain ⟨rfl, rfl⟩ := hrel
  go_wp2
  go_ret
  exact ⟨rfl, rfl⟩
set_option maxHeartbeats 2000000 in
theorem mix_zero (w : World) :
  Calls Tryz.prog 60 #[.int .u32 0, .int .u32 0, .int .u32 0] w fun e w' => e = .returned (.int .u32 0) ∧ w = w' := by
 have i0 : ∀ w, (Instr.index 152 (.agg #[.int .u32 0, .int .u32 0]) (.int .i64 0)).run Tryz.prog w = .ok (.int .u32 0) w := fun _ => by kernel_rfl
 have i1 : ∀ w, (Instr.index 152 (.agg #[.int .u32 0, .int .u32 0]) (.int .i64 1)).run Tryz.prog w = .ok (.int .u32 0) w := fun _ => by kernel_rfl
 have hx : bits BinOp.xor IntKind.u32 0 0 = 0 := by kernel_rfl
 go_enter Tryz.func60, Tryz.ntmps60
 go_wp2
 go_loop [7, 9, 14] (fun h _ i => ∃ k : Nat, k ≤ 2 ∧ i = .int .i64 k ∧ h = .int .u32 0) (fun _ _ i => 2 - (intOf i).toNat)
 case atStart => exact ⟨0, by omega, rfl, rfl⟩
 case round =>
  obtain ⟨k, hk, rfl, rfl⟩ := hrel
  obtain rfl | rfl | rfl : k = 0 ∨ k = 1 ∨ k = 2 := by omega
  ·go_wp2
   go_round
   case rel => exact ⟨1, by omega, rfl, rfl⟩
   case measure => simp [intOf]
  ·go_wp2
   go_round
   case rel => exact ⟨2, by omega, rfl, rfl⟩
   case measure => simp [intOf]
  ·go_wp2
   go_ret
   exact ⟨rfl, rfl⟩
end
end Go.Proofs.YtapldonpflgnfaaGreatDoor
