import Derived.Test.YtfpjhobhmcfpnaaDoorJAC
import Derived.Test.YtfpjhobhmcfpnaaDoorJAY
import Derived.Test.YtfpjhobhmcfpnaaDoorJBA
import Derived.Deep.RegionHeld3
import Derived.Deep.DeepCutAuto
import Derived.Deep.QuietTactic
import Derived.BigQuiet
import Derived.IntWalk
section
/- Package sense: claimsIn, over this seat's translation (written by mk_cin.py). -/
namespace Go.Proofs.YtfpjhobhmcfpnaaDoor
set_option linter.unusedVariables false
set_option linter.unusedSimpArgs false
open Go.RowKit Go.Shelf

set_option maxRecDepth 100000 in
set_option maxHeartbeats 8000000 in
theorem claimsIn_any (R : MachR) (M : MachD) (P F : Option Addr) (np cp nf cf : Nat) (bs : List Int) (zs : List SpanD) (cell : Int) (w : World) (hM : IsM w R M) (hB : IsT 1 intCells w P np bs) (hF : IsT 2 SpanD.cells w F nf zs) (hc : checkC M = 0) (hcell : wthn cell 0 (M.grid.nr * M.grid.nz - 1) = true)
    (hnb : np = R.ld) (hnf : nf = R.ld) (hbs : ∀ b ∈ bs, -50000000000000000 ≤ b ∧ b ≤ 50000000000000000) (hzs : ∀ s ∈ zs, vld s.lo s.hi = true) :
    Calls Tryd.prog 47 #[.agg (machCells R M), .slice P np cp, .slice F nf cf, .int .i64 cell] w (MadeAt R.ld ((clL M bs zs cell).flatMap SpanD.cells) w) := by
  have hl := hM.sensors.1
  have hb1 := hB.1
  have hf1 := hF.1
  have hld : R.ld ≤ 1000 := by have := (sound_of hc).sensors.1; omega
  have hlc : 1 ≤ R.lc := by have := hM.limits.1; have := limits_pos hc; omega
  have hcl : cellL M cell = (cellR M.grid cell, cellZ M.grid cell, 0) := by
    unfold cellL
    rw [if_pos hc, if_pos hcell]
  have HCE := Lib.hid (fun W (hb : Below w.heap.size w W) => (by have h := mcell_any R M cell W (hM.below hb); rw [hcl] at h; exact h : Calls Tryd.prog 30 #[.agg (machCells R M), .int .i64 cell] W (Ret (.tuple #[.agg #[.int .i64 (cellR M.grid cell), .int .i64 (cellZ M.grid cell)], .int .i64 0]) W)))
  obtain ⟨rf, hrf⟩ : ∃ rf : Nat → Int, ∀ k : Nat, (respL M (k : Int) cell).1 = rf k := ⟨fun k => (respL M (k : Int) cell).1, fun _ => rfl⟩
  have HRA := Lib.hid (fun (k : Nat) (hk : k < R.ld) W (hb : Below w.heap.size w W) => (by
    obtain ⟨x, hx⟩ : ∃ x, M.sensors[k]? = some x := ⟨_, List.getElem?_eq_getElem (by omega)⟩
    have h := respAt_any R M k x (cellR M.grid cell) (cellZ M.grid cell) W (hM.below hb) hx hlc
    have e : (exactL (aloneM M x (cellR M.grid cell) (cellZ M.grid cell)) oneC 0).1 = rf k := by
      have c := wthn_iff.1 hcell
      rw [alone_exact hc (List.mem_of_getElem? hx) (cell_near hc (by omega) (by omega)), ← hrf, respL_val hc (wthn_iff.2 (by omega)) hcell (by simpa using hx)]
    rw [e] at h
    exact h : Calls Tryd.prog 32 #[.agg (machCells R M), .int .i64 (k : Int), .agg #[.int .i64 (cellR M.grid cell), .int .i64 (cellZ M.grid cell)]] W (Ret (.int .i64 (rf k)) W)))
  have HRB : Hid (∀ k : Nat, -250000 ≤ rf k ∧ rf k ≤ 250000) := Lib.hid (fun k => by rw [← hrf]; exact respL_bd M k cell)
  have HT : Hid (∀ (k : Nat) (s : SpanD) (b : Int), zs[k]? = some s → bs[k]? = some b → ((clL M bs zs cell).flatMap SpanD.cells)[k * 2]? = some (.int .i64 (allowL s.lo s.hi b (rf k)).1) ∧ ((clL M bs zs cell).flatMap SpanD.cells)[k * 2 + 1]? = some (.int .i64 (allowL s.lo s.hi b (rf k)).2)) := Lib.hid (fun k s b h1 h2 => by
    have hk : k < M.sensors.length := by have := (List.getElem?_eq_some_iff.1 h1).1; omega
    have h := flat2 _ k _ (clL_get (M := M) (bs := bs) (zs := zs) (cell := cell) hk)
    unfold clF at h
    simp only [List.getD_eq_getElem?_getD, h1, h2, Option.getD_some, hrf] at h
    exact h)
  have HL : Hid (((clL M bs zs cell).flatMap SpanD.cells).length = R.ld * 2) := Lib.hid (by rw [flat2_len, clL_len, hl])
  have HBs := Lib.hid hbs
  have HZs := Lib.hid hzs
  have HIB := Lib.hid hB
  have HIF := Lib.hid hF
  subst hnb hnf
  clear hM hB hF hc hcell hbs hzs hcl hrf hl hlc
  generalize (clL M bs zs cell).flatMap SpanD.cells = T at *
  generalize cellR M.grid cell = X at *
  generalize cellZ M.grid cell = Y at *
  obtain ⟨A, B, Cl, D, la, ca, lb, cb, lc, cl, ld, cd⟩ := R
  obtain ⟨name, coils, shells, limits, ⟨r, z, nr, nz, step⟩, sensors⟩ := M
  dsimp only at *
  have HCE2 := Lib.hid (show ∀ W, Below w.heap.size w W → Calls Tryd.prog 30 #[.agg #[.string name, .slice A la ca, .slice B lb cb, .slice Cl lc cl, .int .i64 r, .int .i64 z, .int .i64 nr, .int .i64 nz, .int .i64 step, .slice D ld cd], .int .i64 cell] W (Ret (.tuple #[.agg #[.int .i64 X, .int .i64 Y], .int .i64 0]) W) from HCE.out)
  have HRA2 := Lib.hid (show ∀ k : Nat, k < ld → ∀ W, Below w.heap.size w W → Calls Tryd.prog 32 #[.agg #[.string name, .slice A la ca, .slice B lb cb, .slice Cl lc cl, .int .i64 r, .int .i64 z, .int .i64 nr, .int .i64 nz, .int .i64 step, .slice D ld cd], .int .i64 k, .agg #[.int .i64 X, .int .i64 Y]] W (Ret (.int .i64 (rf k)) W) from HRA.out)
  clear HCE HRA
  have hmk := run_make_span 98 Tryd.underlying98 ld (by omega)
  show Calls Tryd.prog 47 #[.agg #[.string name, .slice A la ca, .slice B lb cb, .slice Cl lc cl, .int .i64 r, .int .i64 z, .int .i64 nr, .int .i64 nz, .int .i64 step, .slice D ld cd], .slice P ld cp, .slice F ld cf, .int .i64 cell] w _
  go_enter Tryd.func47, Tryd.ntmps47
  go_upto_region 1 with (fail)
  have Fm : Hid (RowL (w.heap.size) [.string name, .slice A la ca, .slice B lb cb, .slice Cl lc cl, .int .i64 r, .int .i64 z, .int .i64 nr, .int .i64 nz, .int .i64 step, .slice D ld cd] (w.alloc (.cells #[.string name, .slice A la ca, .slice B lb cb, .slice Cl lc cl, .int .i64 r, .int .i64 z, .int .i64 nr, .int .i64 nz, .int .i64 step, .slice D ld cd] 29))) := Lib.hid (by have h := RowL.new w #[.string name, .slice A la ca, .slice B lb cb, .slice Cl lc cl, .int .i64 r, .int .i64 z, .int .i64 nr, .int .i64 nz, .int .i64 step, .slice D ld cd] 29; (try simp only [World.size_alloc] at h); exact h)
  have hB0 : Below w.heap.size w (w.alloc (.cells #[.string name, .slice A la ca, .slice B lb cb, .slice Cl lc cl, .int .i64 r, .int .i64 z, .int .i64 nr, .int .i64 nz, .int .i64 step, .slice D ld cd] 29)) := by (with_reducible repeat first | exact Below.refl _ _ | assumption | ((first | refine Below.setCell ?_ ?_ _ | refine Below.alloc ?_ ?_ _); rotate_left; exact (by first | omega | (simp; done) | (simp; omega))) | refine Below.drew ?_ | refine Below_drewN ?_ _)
  have sW0 : w.heap.size < (w.alloc (.cells #[.string name, .slice A la ca, .slice B lb cb, .slice Cl lc cl, .int .i64 r, .int .i64 z, .int .i64 nr, .int .i64 nz, .int .i64 step, .slice D ld cd] 29)).heap.size := by simp only [World.size_alloc]; omega
  obtain ⟨W0, hW0⟩ : ∃ W, (w.alloc (.cells #[.string name, .slice A la ca, .slice B lb cb, .slice Cl lc cl, .int .i64 r, .int .i64 z, .int .i64 nr, .int .i64 nz, .int .i64 step, .slice D ld cd] 29)) = W := ⟨_, rfl⟩
  rw [hW0] at Fm hB0 sW0 ⊢
  clear hW0
  have m0 := Fm.out.cell 0 (.string name) rfl
  have m1 := Fm.out.cell 1 (.slice A la ca) rfl
  have m2 := Fm.out.cell 2 (.slice B lb cb) rfl
  have m3 := Fm.out.cell 3 (.slice Cl lc cl) rfl
  have m4 := Fm.out.cell 4 (.int .i64 r) rfl
  have m5 := Fm.out.cell 5 (.int .i64 z) rfl
  have m6 := Fm.out.cell 6 (.int .i64 nr) rfl
  have m7 := Fm.out.cell 7 (.int .i64 nz) rfl
  have m8 := Fm.out.cell 8 (.int .i64 step) rfl
  have m9 := Fm.out.cell 9 (.slice D ld cd) rfl
  go_wp2_with fail
  refine (HCE2.out _ hB0).mono ?_
  rintro e w1 ⟨rfl, hb⟩
  clear m0 m1 m2 m3 m4 m5 m6 m7 m8 m9
  have Gm := Lib.hid (Fm.out.below hb)
  clear Fm
  have Fm := Lib.hid Gm.out
  clear Gm
  have m0 := Fm.out.cell 0 (.string name) rfl
  have m1 := Fm.out.cell 1 (.slice A la ca) rfl
  have m2 := Fm.out.cell 2 (.slice B lb cb) rfl
  have m3 := Fm.out.cell 3 (.slice Cl lc cl) rfl
  have m4 := Fm.out.cell 4 (.int .i64 r) rfl
  have m5 := Fm.out.cell 5 (.int .i64 z) rfl
  have m6 := Fm.out.cell 6 (.int .i64 nr) rfl
  have m7 := Fm.out.cell 7 (.int .i64 nz) rfl
  have m8 := Fm.out.cell 8 (.int .i64 step) rfl
  have m9 := Fm.out.cell 9 (.slice D ld cd) rfl
  have hB1 := hB0.trans (hb.mono hB0.size)
  have hz1 : w.heap.size < w1.heap.size := Nat.lt_of_lt_of_le sW0 hb.size
  clear hb hB0 sW0 HCE2
  go_upto_region 2 with (fail)
  have Fq : Hid (RowL (w1.heap.size) [.int .i64 X, .int .i64 Y] (w1.alloc (.cells #[.int .i64 X, .int .i64 Y] 76))) := Lib.hid (by have h := RowL.new w1 #[.int .i64 X, .int .i64 Y] 76; (try simp only [World.size_alloc] at h); exact h)
  have hb2 : Below w1.heap.size w1 (w1.alloc (.cells #[.int .i64 X, .int .i64 Y] 76)) := by (with_reducible repeat first | exact Below.refl _ _ | assumption | ((first | refine Below.setCell ?_ ?_ _ | refine Below.alloc ?_ ?_ _); rotate_left; exact (by first | omega | (simp; done) | (simp; omega))) | refine Below.drew ?_ | refine Below_drewN ?_ _)
  have sW2 : w1.heap.size < (w1.alloc (.cells #[.int .i64 X, .int .i64 Y] 76)).heap.size := by simp only [World.size_alloc]; omega
  obtain ⟨W2, hW2⟩ : ∃ W, (w1.alloc (.cells #[.int .i64 X, .int .i64 Y] 76)) = W := ⟨_, rfl⟩
  rw [hW2] at Fq hb2 sW2 ⊢
  clear hW2
  clear m0 m1 m2 m3 m4 m5 m6 m7 m8 m9
  have Gm := Lib.hid (Fm.out.below hb2)
  clear Fm
  have Fm := Lib.hid Gm.out
  clear Gm
  have m0 := Fm.out.cell 0 (.string name) rfl
  have m1 := Fm.out.cell 1 (.slice A la ca) rfl
  have m2 := Fm.out.cell 2 (.slice B lb cb) rfl
  have m3 := Fm.out.cell 3 (.slice Cl lc cl) rfl
  have m4 := Fm.out.cell 4 (.int .i64 r) rfl
  have m5 := Fm.out.cell 5 (.int .i64 z) rfl
  have m6 := Fm.out.cell 6 (.int .i64 nr) rfl
  have m7 := Fm.out.cell 7 (.int .i64 nz) rfl
  have m8 := Fm.out.cell 8 (.int .i64 step) rfl
  have m9 := Fm.out.cell 9 (.slice D ld cd) rfl
  have q0 := Fq.out.cell 0 (.int .i64 X) rfl
  have q1 := Fq.out.cell 1 (.int .i64 Y) rfl
  have hB2 := hB1.trans (hb2.mono hB1.size)
  clear hb2
  have hz2 : w.heap.size < W2.heap.size := by omega
  go_upto_region 3 with (fail)
  have hR0 : Hid (RowL W2.heap.size (T.take (0 * 2) ++ List.replicate (ld * 2 - 0 * 2) (.int .i64 0)) (W2.alloc (.cells (madeCells #[.int .i64 0, .int .i64 0] (ld * 2)) 66))) := Lib.hid (by rw [Nat.zero_mul, fill_none]; exact RowL.made2 W2 _ _ _)
  have hb1 : Below W2.heap.size W2 (W2.alloc (.cells (madeCells #[.int .i64 0, .int .i64 0] (ld * 2)) 66)) := by (with_reducible repeat first | exact Below.refl _ _ | assumption | ((first | refine Below.setCell ?_ ?_ _ | refine Below.alloc ?_ ?_ _); rotate_left; exact (by first | omega | (simp; done) | (simp; omega))) | refine Below.drew ?_ | refine Below_drewN ?_ _)
  obtain ⟨W3, hW3⟩ : ∃ W, W2.alloc (.cells (madeCells #[.int .i64 0, .int .i64 0] (ld * 2)) 66) = W := ⟨_, rfl⟩
  rw [hW3] at hR0 hb1 ⊢
  clear hW3 hmk m0 m1 m2 m3 m4 m5 m6 m7 m8 m9 q0 q1
  go_wp2_with fail
  go_loopw [25] (fun i wr => ∃ j : Nat, j ≤ ld ∧ i = .int .i64 j ∧ Hid (RowL W2.heap.size (T.take (j * 2) ++ List.replicate (ld * 2 - j * 2) (.int .i64 0)) wr) ∧ Below W2.heap.size W2 wr) (fun i _ => ld - (intOf i).toNat)
  case atStart => exact ⟨0, Nat.zero_le _, rfl, hR0, hb1⟩
  case round =>
    obtain ⟨j, hj, rfl, hR, hB⟩ := hrel
    have sz := hB.size
    have hBw := hB2.trans (hB.mono hB2.size)
    by_cases hlt : j < ld
    · obtain ⟨-, hcf⟩ := HIF.out.below hBw
      obtain ⟨bf, of, rfl, hbf, hcf⟩ := hcf (by omega)
      obtain ⟨-, hcb⟩ := HIB.out.below hBw
      obtain ⟨bb, ob, rfl, hbb, hcb⟩ := hcb (by omega)
      have hbf1 : bf < w.heap.size := by obtain ⟨b9, o9, e9, h9, -⟩ := HIF.out.2 (by omega); injection e9 with e9; injection e9 with e9; omega
      have hbb1 : bb < w.heap.size := by obtain ⟨b9, o9, e9, h9, -⟩ := HIB.out.2 (by omega); injection e9 with e9; injection e9 with e9; omega
      obtain ⟨s, hs⟩ : ∃ s, zs[j]? = some s := ⟨_, List.getElem?_eq_getElem (by omega)⟩
      obtain ⟨xb, hx⟩ : ∃ b, bs[j]? = some b := ⟨_, List.getElem?_eq_getElem (by omega)⟩
      have e0 : wr.cell? ⟨bf, of + j * 2, none⟩ = some (.int .i64 s.lo) := by have h := hcf j s hs 0 _ rfl; simpa using h
      have e1 : wr.cell? ⟨bf, of + j * 2 + 1, none⟩ = some (.int .i64 s.hi) := by have h := hcf j s hs 1 _ rfl; simpa using h
      have e2 : wr.cell? ⟨bb, ob + j, none⟩ = some (.int .i64 xb) := by have h := hcb j xb hx 0 _ rfl; simpa using h
      have hT := HT.out j s xb hs hx
      have hv := vld_iff.1 (HZs.out s (List.mem_of_getElem? hs))
      have hxb := HBs.out xb (List.mem_of_getElem? hx)
      have hr := HRB.out j
      have HR1 := Lib.hid (HRA2.out j hlt)
      obtain ⟨xl, xh⟩ := s
      dsimp only at e0 e1 hT hv
      have HA := Lib.hid (fun W => allowed_any xl xh xb (rf j) W (by omega) (by omega) (by omega) (by omega) (by omega) (by omega) (by omega) (by omega))
      generalize rf j = G at *
      generalize allowL xl xh xb G = U at *
      obtain ⟨u, v⟩ := U
      have HTj := Lib.hid hT
      clear hcf hcb hs hx hT hv hxb hr
      dsimp only at HA HTj
      have r0 := hR.out.cell (j * 2) (.int .i64 0) (fill_get T (ld * 2) (j * 2) _ HL.out (by omega))
      have rf0 := hR.out.mark (j * 2) (by rw [fill_len T (ld * 2) (j * 2) _ HL.out (by omega)]; omega)
      have r1 : wr.cell? ⟨W2.heap.size, j * 2 + 1, none⟩ = some (.int .i64 0) := hR.out.cell (j * 2 + 1) (.int .i64 0) (by
        have h1 : (T.take (j * 2)).length = j * 2 := by rw [List.length_take, HL.out]; omega
        rw [List.getElem?_append_right (by omega), h1, List.getElem?_replicate, if_pos (by omega)])
      have rf1 := hR.out.mark (j * 2 + 1) (by rw [fill_len T (ld * 2) (j * 2) _ HL.out (by omega)]; omega)
      have hpl := hR.out.lt
      have m0 := (Fm.out.below hB).cell 0 (.string name) rfl
      have m1 := (Fm.out.below hB).cell 1 (.slice A la ca) rfl
      have m2 := (Fm.out.below hB).cell 2 (.slice B lb cb) rfl
      have m3 := (Fm.out.below hB).cell 3 (.slice Cl lc cl) rfl
      have m4 := (Fm.out.below hB).cell 4 (.int .i64 r) rfl
      have m5 := (Fm.out.below hB).cell 5 (.int .i64 z) rfl
      have m6 := (Fm.out.below hB).cell 6 (.int .i64 nr) rfl
      have m7 := (Fm.out.below hB).cell 7 (.int .i64 nz) rfl
      have m8 := (Fm.out.below hB).cell 8 (.int .i64 step) rfl
      have m9 := (Fm.out.below hB).cell 9 (.slice D ld cd) rfl
      have q0 := (Fq.out.below hB).cell 0 (.int .i64 X) rfl
      have q1 := (Fq.out.below hB).cell 1 (.int .i64 Y) rfl
      have jn : ((j : Int)).toNat = j := by omega
      have j0 : (0 : Int) ≤ j := by omega
      have g1 : w1.heap.size < W2.heap.size := sW2
      clear hR0 hb1
      go_wp2_with fail
      have HS : Hid (∀ w' : World, Reg (W2.heap.size) (wr) w' → (Reg (W2.heap.size) (wr) w' ∧ w'.cell? ⟨w.heap.size, 0, none⟩ = some (.string name) ∧ w'.cell? ⟨w.heap.size, 1, none⟩ = some (.slice A la ca) ∧ w'.cell? ⟨w.heap.size, 2, none⟩ = some (.slice B lb cb) ∧ w'.cell? ⟨w.heap.size, 3, none⟩ = some (.slice Cl lc cl) ∧ w'.cell? ⟨w.heap.size, 4, none⟩ = some (.int .i64 r) ∧ w'.cell? ⟨w.heap.size, 5, none⟩ = some (.int .i64 z) ∧ w'.cell? ⟨w.heap.size, 6, none⟩ = some (.int .i64 nr) ∧ w'.cell? ⟨w.heap.size, 7, none⟩ = some (.int .i64 nz) ∧ w'.cell? ⟨w.heap.size, 8, none⟩ = some (.int .i64 step) ∧ w'.cell? ⟨w.heap.size, 9, none⟩ = some (.slice D ld cd) ∧ w'.cell? ⟨w1.heap.size, 0, none⟩ = some (.int .i64 X) ∧ w'.cell? ⟨w1.heap.size, 1, none⟩ = some (.int .i64 Y) ∧ w'.cell? ⟨bf, of + j * 2, none⟩ = some (.int .i64 xl) ∧ w'.cell? ⟨bf, of + j * 2 + 1, none⟩ = some (.int .i64 xh) ∧ w'.cell? ⟨bb, ob + j, none⟩ = some (.int .i64 xb) ∧ w'.cell? ⟨W2.heap.size, j * 2, none⟩ = some (cur w' ⟨W2.heap.size, j * 2, none⟩) ∧ w'.frozen? ⟨W2.heap.size, j * 2, none⟩ = false ∧ w'.cell? ⟨W2.heap.size, j * 2 + 1, none⟩ = some (cur w' ⟨W2.heap.size, j * 2 + 1, none⟩) ∧ w'.frozen? ⟨W2.heap.size, j * 2 + 1, none⟩ = false)) := (fun w' h => by (have hc := h.cells; have hs := h.some; have hf := h.frozen; refine ⟨h, ?_⟩; (try simp only [World.size_alloc, World.size_setCell, size_drew, size_drewN] at hc hs hf); first | (simp (disch := omega) only [hc, hs, hf, cur_iff]; (try go_simp); done) | (simp (disch := first | omega | (simp; done)) only [hc, hs, hf, cur_iff]; (try go_simp); done) | (simp (maxDischargeDepth := 4) [hc, hs, hf, cur_iff, go_sem]; done) | (go_simp; done) | (simp (maxDischargeDepth := 4) [hc, hs, hf, cur_iff, go_sem]; go_simp))); go_region_held3 (fun w' => Reg (W2.heap.size) (wr) w' ∧ w'.cell? ⟨w.heap.size, 0, none⟩ = some (.string name) ∧ w'.cell? ⟨w.heap.size, 1, none⟩ = some (.slice A la ca) ∧ w'.cell? ⟨w.heap.size, 2, none⟩ = some (.slice B lb cb) ∧ w'.cell? ⟨w.heap.size, 3, none⟩ = some (.slice Cl lc cl) ∧ w'.cell? ⟨w.heap.size, 4, none⟩ = some (.int .i64 r) ∧ w'.cell? ⟨w.heap.size, 5, none⟩ = some (.int .i64 z) ∧ w'.cell? ⟨w.heap.size, 6, none⟩ = some (.int .i64 nr) ∧ w'.cell? ⟨w.heap.size, 7, none⟩ = some (.int .i64 nz) ∧ w'.cell? ⟨w.heap.size, 8, none⟩ = some (.int .i64 step) ∧ w'.cell? ⟨w.heap.size, 9, none⟩ = some (.slice D ld cd) ∧ w'.cell? ⟨w1.heap.size, 0, none⟩ = some (.int .i64 X) ∧ w'.cell? ⟨w1.heap.size, 1, none⟩ = some (.int .i64 Y) ∧ w'.cell? ⟨bf, of + j * 2, none⟩ = some (.int .i64 xl) ∧ w'.cell? ⟨bf, of + j * 2 + 1, none⟩ = some (.int .i64 xh) ∧ w'.cell? ⟨bb, ob + j, none⟩ = some (.int .i64 xb) ∧ w'.cell? ⟨W2.heap.size, j * 2, none⟩ = some (cur w' ⟨W2.heap.size, j * 2, none⟩) ∧ w'.frozen? ⟨W2.heap.size, j * 2, none⟩ = false ∧ w'.cell? ⟨W2.heap.size, j * 2 + 1, none⟩ = some (cur w' ⟨W2.heap.size, j * 2 + 1, none⟩) ∧ w'.frozen? ⟨W2.heap.size, j * 2 + 1, none⟩ = false) (exact HS.out _ (by (repeat first | with_reducible exact Reg.refl _ _ | with_reducible exact Reg.drewN2 _ _ _ _ | with_reducible exact (‹Reg _ _ _ ∧ _›).1 | (with_reducible refine Reg.setCell ?_ ?_ _; rotate_left; exact (by first | omega | ((try simp only [World.size_alloc, World.size_setCell, size_drew, size_drewN]); omega) | (simp; done) | (simp; omega))) | with_reducible refine Reg.alloc ?_ _ | with_reducible refine Reg.drew ?_ | with_reducible refine Reg.drewN ?_ _ | (with_reducible apply Reg.call; rotate_left; with_reducible assumption)))) (first | (go_at_call 32; (with_reducible refine (HR1.out _ (Reg.out (‹Reg _ _ _ ∧ _›).1 hBw (by first | omega | (simp; done) | (simp; omega)))).mono ?_); rintro e w8 ⟨rfl, hb8⟩; have hb := hb8; (first | (with_reducible have hk := Nat.lt_of_lt_of_le (size_alloc_lt _ _) hb.size) | (with_reducible have hk := Nat.lt_of_lt_of_le (size_alloc_drew_lt _ _) hb.size) | (with_reducible have hk := Nat.lt_of_lt_of_le hk hb.size) | skip); (try simp only [World.size_alloc, World.size_setCell, size_drew, size_drewN] at hk); obtain ⟨hc, hf⟩ := bcell hb; have hs := hb.size; (try simp only [World.size_alloc, World.size_setCell, size_drew, size_drewN] at hs); clear hb) | (go_at_call 50; (with_reducible refine (HA.out _).mono ?_); rintro e w9 ⟨rfl, hb9⟩; have hb := hb9; (first | (with_reducible have hk := Nat.lt_of_lt_of_le (size_alloc_lt _ _) hb.size) | (with_reducible have hk := Nat.lt_of_lt_of_le (size_alloc_drew_lt _ _) hb.size) | (with_reducible have hk := Nat.lt_of_lt_of_le hk hb.size) | skip); (try simp only [World.size_alloc, World.size_setCell, size_drew, size_drewN] at hk); obtain ⟨hc, hf⟩ := bcell hb; have hs := hb.size; (try simp only [World.size_alloc, World.size_setCell, size_drew, size_drewN] at hs); clear hb))
      all_goals go_wp2_with fail
      have h8 : Below W2.heap.size W2 w8 := Below.trans (by (with_reducible repeat first | exact Below.refl _ _ | assumption | ((first | refine Below.setCell ?_ ?_ _ | refine Below.alloc ?_ ?_ _); rotate_left; exact (by first | omega | (simp; done) | (simp; omega))) | refine Below.drew ?_ | refine Below_drewN ?_ _)) (hb8.mono (by first | omega | ((try simp only [World.size_alloc, World.size_setCell, size_drew, size_drewN]); omega) | (simp; done) | (simp; omega)))
      have h9 : Below W2.heap.size W2 w9 := Below.trans (by (with_reducible repeat first | exact Below.refl _ _ | assumption | ((first | refine Below.setCell ?_ ?_ _ | refine Below.alloc ?_ ?_ _); rotate_left; exact (by first | omega | (simp; done) | (simp; omega))) | refine Below.drew ?_ | refine Below_drewN ?_ _)) (hb9.mono (by first | omega | ((try simp only [World.size_alloc, World.size_setCell, size_drew, size_drewN]); omega) | (simp; done) | (simp; omega)))
      have hR9 : RowL W2.heap.size (T.take (j * 2) ++ List.replicate (ld * 2 - j * 2) (.int .i64 0)) w9 := by
        refine RowL.below ?_ hb9
        repeat refine RowL.drew ?_
        refine RowL.below ?_ hb8
        repeat refine RowL.drew ?_
        exact hR.out
      have HR9 := Lib.hid ((hR9.fill HL.out (by omega) HTj.out.1).fill HL.out (by omega) HTj.out.2)
      clear hR9
      go_roundw
      case rel => exact ⟨j + 1, by omega, by go_num, by rw [show (j + 1) * 2 = j * 2 + 1 + 1 by omega]; exact HR9, by (with_reducible repeat first | exact Below.refl _ _ | assumption | ((first | refine Below.setCell ?_ ?_ _ | refine Below.alloc ?_ ?_ _); rotate_left; exact (by first | omega | (simp; done) | (simp; omega))) | refine Below.drew ?_ | refine Below_drewN ?_ _)⟩
      case measure => simp [intOf]; omega
    · obtain rfl : j = ld := by omega
      have hR2 := hR.out
      rw [fill_all T (j * 2) _ HL.out] at hR2
      have HR3 := Lib.hid hR2
      clear hR hR0 hb1 hR2
      go_wp2_with fail
      go_ret
      exact ⟨W2.heap.size, rfl, by omega, HR3.out, hBw⟩

end Go.Proofs.YtfpjhobhmcfpnaaDoor
end
section
/- slices.IndexFunc and ContainsFunc over []Fault, over this seat's translation (written by mk_mac.py). -/
namespace Go.Proofs.YtfpjhobhmcfpnaaDoor
set_option linter.unusedVariables false
set_option linter.unusedSimpArgs false
open Go.RowKit

set_option maxHeartbeats 2000000 in
theorem indexFault1 (k : Nat) (c0 : Nat) (p : FaultD → Bool) (A : Option Addr) (len cap : Nat) (zs : List FaultD) (w : World) (hI : IsT 4 FaultD.cells w A len zs) (hl : len ≤ 1000000000000000)
    (hE : ∀ (args : Array Value) (W : World), (callFunc k args).run Tryd.prog W = .ok (.enter k args) W)
    (hk : ∀ (x : FaultD) (W : World), x ∈ zs → Below w.heap.size w W → Calls Tryd.prog k #[FaultD.v x, .pointer (some ⟨c0, 0, none⟩)] W (Ret (.bool (p x)) W)) :
    Calls Tryd.prog 109 #[.slice A len cap, .func (.func k) #[] #[.pointer (some ⟨c0, 0, none⟩)]] w (Ret (.int .i64 (idxL p zs)) w) := by
  have HI := Lib.hid hI
  have HK := Lib.hid hk
  have HG : Hid (idxL p zs = idxGo p zs 0) := Lib.hid rfl
  generalize idxL p zs = G at *
  clear hI hk
  go_enter Tryd.func109, Tryd.ntmps109
  go_wp2_with fail
  go_loopw [5, 8] (fun _ i wr => ∃ j : Nat, j ≤ len ∧ i = .int .i64 j ∧ Hid (idxGo p (zs.drop j) j = G) ∧ Below w.heap.size w wr) (fun _ i _ => len - (intOf i).toNat)
  case atStart => exact ⟨0, Nat.zero_le _, rfl, Lib.hid HG.out.symm, Below.refl _ _⟩
  case round =>
    obtain ⟨j, hj, rfl, hG, hB⟩ := hrel
    by_cases hlt : j < len
    · obtain ⟨hzl, hcl⟩ := HI.out.below hB
      obtain ⟨b, o, rfl, hb0, hcl⟩ := hcl (by omega)
      obtain ⟨x, hx⟩ : ∃ x, zs[j]? = some x := ⟨_, List.getElem?_eq_getElem (by omega)⟩
      have HM := Lib.hid (List.mem_of_getElem? hx)
      have HS := Lib.hid (idxGo_drop p hx (j : Int))
      have x0 : wr.cell? ⟨b, o + j * 4, none⟩ = some (.int .i64 x.at_) := by have h := hcl j x hx 0 _ rfl; simpa using h
      have x1 : wr.cell? ⟨b, o + j * 4 + 1, none⟩ = some (.int .i64 x.sensor) := by have h := hcl j x hx 1 _ rfl; simpa using h
      have x2 : wr.cell? ⟨b, o + j * 4 + 2, none⟩ = some (.int .i64 x.kind) := by have h := hcl j x hx 2 _ rfl; simpa using h
      have x3 : wr.cell? ⟨b, o + j * 4 + 3, none⟩ = some (.int .i64 x.n) := by have h := hcl j x hx 3 _ rfl; simpa using h
      have hsz := hB.size
      have HC := Lib.hid (HK.out x)
      clear hcl hx hzl
      cases hp : p x
      · have HN : Hid (idxGo p (zs.drop (j + 1)) ((j + 1 : Nat) : Int) = G) := Lib.hid (by rw [← hG.out, HS.out, hp]; rfl)
        have HC := Lib.hid (show ∀ W, Below w.heap.size w W → Calls Tryd.prog k #[FaultD.v x, .pointer (some ⟨c0, 0, none⟩)] W (Ret (.bool false) W) from fun W h => by have := HC.out W HM.out h; rwa [hp] at this)
        clear hp
        go_wp2_with ((with_reducible show Calls _ k _ _ _); refine (HC.out _ (by (with_reducible repeat first | exact Below.refl _ _ | assumption | ((first | refine Below.setCell ?_ ?_ _ | refine Below.alloc ?_ ?_ _); rotate_left; exact (by first | omega | (simp; done) | (simp; omega))) | refine Below.drew ?_ | refine Below_drewN ?_ _))).mono ?_; rintro e w1 ⟨rfl, hb⟩; have hB1 : Below w.heap.size w w1 := Below.trans (by (with_reducible repeat first | exact Below.refl _ _ | assumption | ((first | refine Below.setCell ?_ ?_ _ | refine Below.alloc ?_ ?_ _); rotate_left; exact (by first | omega | (simp; done) | (simp; omega))) | refine Below.drew ?_ | refine Below_drewN ?_ _)) (hb.mono (by first | omega | ((try simp only [World.size_alloc, World.size_setCell, size_drew, size_drewN]); omega) | (simp; done) | (simp; omega))))
        go_roundw
        case rel => exact ⟨j + 1, by omega, by go_num, HN, by (with_reducible repeat first | exact Below.refl _ _ | assumption | ((first | refine Below.setCell ?_ ?_ _ | refine Below.alloc ?_ ?_ _); rotate_left; exact (by first | omega | (simp; done) | (simp; omega))) | refine Below.drew ?_ | refine Below_drewN ?_ _)⟩
        case measure => simp [intOf]; omega
      · have HN : Hid ((j : Int) = G) := Lib.hid (by rw [← hG.out, HS.out, hp]; rfl)
        have HC := Lib.hid (show ∀ W, Below w.heap.size w W → Calls Tryd.prog k #[FaultD.v x, .pointer (some ⟨c0, 0, none⟩)] W (Ret (.bool true) W) from fun W h => by have := HC.out W HM.out h; rwa [hp] at this)
        clear hp
        go_wp2_with ((with_reducible show Calls _ k _ _ _); refine (HC.out _ (by (with_reducible repeat first | exact Below.refl _ _ | assumption | ((first | refine Below.setCell ?_ ?_ _ | refine Below.alloc ?_ ?_ _); rotate_left; exact (by first | omega | (simp; done) | (simp; omega))) | refine Below.drew ?_ | refine Below_drewN ?_ _))).mono ?_; rintro e w1 ⟨rfl, hb⟩; have hB1 : Below w.heap.size w w1 := Below.trans (by (with_reducible repeat first | exact Below.refl _ _ | assumption | ((first | refine Below.setCell ?_ ?_ _ | refine Below.alloc ?_ ?_ _); rotate_left; exact (by first | omega | (simp; done) | (simp; omega))) | refine Below.drew ?_ | refine Below_drewN ?_ _)) (hb.mono (by first | omega | ((try simp only [World.size_alloc, World.size_setCell, size_drew, size_drewN]); omega) | (simp; done) | (simp; omega))))
        go_ret
        exact ⟨by rw [← HN.out]; rfl, by (with_reducible repeat first | exact Below.refl _ _ | assumption | ((first | refine Below.setCell ?_ ?_ _ | refine Below.alloc ?_ ?_ _); rotate_left; exact (by first | omega | (simp; done) | (simp; omega))) | refine Below.drew ?_ | refine Below_drewN ?_ _)⟩
    · have HN : Hid ((-1 : Int) = G) := Lib.hid (by rw [← hG.out, List.drop_of_length_le (by rw [HI.out.1]; omega)]; rfl)
      go_wp2
      go_ret
      exact ⟨by rw [← HN.out]; rfl, hB⟩

set_option maxHeartbeats 1000000 in
theorem containsFault1 (k : Nat) (c0 : Nat) (p : FaultD → Bool) (A : Option Addr) (len cap : Nat) (zs : List FaultD) (w : World) (hI : IsT 4 FaultD.cells w A len zs) (hl : len ≤ 1000000000000000)
    (hE : ∀ (args : Array Value) (W : World), (callFunc k args).run Tryd.prog W = .ok (.enter k args) W)
    (hk : ∀ (x : FaultD) (W : World), x ∈ zs → Below w.heap.size w W → Calls Tryd.prog k #[FaultD.v x, .pointer (some ⟨c0, 0, none⟩)] W (Ret (.bool (p x)) W)) :
    Calls Tryd.prog 74 #[.slice A len cap, .func (.func k) #[] #[.pointer (some ⟨c0, 0, none⟩)]] w (Ret (.bool (zs.any p)) w) := by
  have HI := Lib.hid (indexFault1 k c0 p A len cap zs w hI hl hE hk)
  have HA := Lib.hid (idxL_nonneg p zs)
  obtain ⟨b1, b2⟩ := idxL_bd p zs
  rw [hI.1] at b2
  clear hI hE hk
  generalize idxL p zs = G at *
  go_enter Tryd.func74, Tryd.ntmps74
  go_wp2_with (go_at_call 109; refine HI.out.mono ?_; rintro e w1 ⟨rfl, hb⟩)
  go_ret
  exact ⟨by rw [← HA.out]; rfl, hb⟩

end Go.Proofs.YtfpjhobhmcfpnaaDoor
end
section
/- slices.IndexFunc and ContainsFunc over []Span, over this seat's translation (written by mk_mac.py). -/
namespace Go.Proofs.YtfpjhobhmcfpnaaDoor
set_option linter.unusedVariables false
set_option linter.unusedSimpArgs false
open Go.RowKit

set_option maxHeartbeats 2000000 in
theorem indexSpan0 (k : Nat) (p : SpanD → Bool) (A : Option Addr) (len cap : Nat) (zs : List SpanD) (w : World) (hI : IsT 2 SpanD.cells w A len zs) (hl : len ≤ 1000000000000000)
    (hE : ∀ (args : Array Value) (W : World), (callFunc k args).run Tryd.prog W = .ok (.enter k args) W)
    (hk : ∀ (x : SpanD) (W : World), x ∈ zs → Below w.heap.size w W → Calls Tryd.prog k #[SpanD.v x] W (Ret (.bool (p x)) W)) :
    Calls Tryd.prog 131 #[.slice A len cap, .func (.func k) #[] #[]] w (Ret (.int .i64 (idxL p zs)) w) := by
  have HI := Lib.hid hI
  have HK := Lib.hid hk
  have HG : Hid (idxL p zs = idxGo p zs 0) := Lib.hid rfl
  generalize idxL p zs = G at *
  clear hI hk
  go_enter Tryd.func131, Tryd.ntmps131
  go_wp2_with fail
  go_loopw [5, 8] (fun _ i wr => ∃ j : Nat, j ≤ len ∧ i = .int .i64 j ∧ Hid (idxGo p (zs.drop j) j = G) ∧ Below w.heap.size w wr) (fun _ i _ => len - (intOf i).toNat)
  case atStart => exact ⟨0, Nat.zero_le _, rfl, Lib.hid HG.out.symm, Below.refl _ _⟩
  case round =>
    obtain ⟨j, hj, rfl, hG, hB⟩ := hrel
    by_cases hlt : j < len
    · obtain ⟨hzl, hcl⟩ := HI.out.below hB
      obtain ⟨b, o, rfl, hb0, hcl⟩ := hcl (by omega)
      obtain ⟨x, hx⟩ : ∃ x, zs[j]? = some x := ⟨_, List.getElem?_eq_getElem (by omega)⟩
      have HM := Lib.hid (List.mem_of_getElem? hx)
      have HS := Lib.hid (idxGo_drop p hx (j : Int))
      have x0 : wr.cell? ⟨b, o + j * 2, none⟩ = some (.int .i64 x.lo) := by have h := hcl j x hx 0 _ rfl; simpa using h
      have x1 : wr.cell? ⟨b, o + j * 2 + 1, none⟩ = some (.int .i64 x.hi) := by have h := hcl j x hx 1 _ rfl; simpa using h
      have hsz := hB.size
      have HC := Lib.hid (HK.out x)
      clear hcl hx hzl
      cases hp : p x
      · have HN : Hid (idxGo p (zs.drop (j + 1)) ((j + 1 : Nat) : Int) = G) := Lib.hid (by rw [← hG.out, HS.out, hp]; rfl)
        have HC := Lib.hid (show ∀ W, Below w.heap.size w W → Calls Tryd.prog k #[SpanD.v x] W (Ret (.bool false) W) from fun W h => by have := HC.out W HM.out h; rwa [hp] at this)
        clear hp
        go_wp2_with ((with_reducible show Calls _ k _ _ _); refine (HC.out _ (by (with_reducible repeat first | exact Below.refl _ _ | assumption | ((first | refine Below.setCell ?_ ?_ _ | refine Below.alloc ?_ ?_ _); rotate_left; exact (by first | omega | (simp; done) | (simp; omega))) | refine Below.drew ?_ | refine Below_drewN ?_ _))).mono ?_; rintro e w1 ⟨rfl, hb⟩; have hB1 : Below w.heap.size w w1 := Below.trans (by (with_reducible repeat first | exact Below.refl _ _ | assumption | ((first | refine Below.setCell ?_ ?_ _ | refine Below.alloc ?_ ?_ _); rotate_left; exact (by first | omega | (simp; done) | (simp; omega))) | refine Below.drew ?_ | refine Below_drewN ?_ _)) (hb.mono (by first | omega | ((try simp only [World.size_alloc, World.size_setCell, size_drew, size_drewN]); omega) | (simp; done) | (simp; omega))))
        go_roundw
        case rel => exact ⟨j + 1, by omega, by go_num, HN, by (with_reducible repeat first | exact Below.refl _ _ | assumption | ((first | refine Below.setCell ?_ ?_ _ | refine Below.alloc ?_ ?_ _); rotate_left; exact (by first | omega | (simp; done) | (simp; omega))) | refine Below.drew ?_ | refine Below_drewN ?_ _)⟩
        case measure => simp [intOf]; omega
      · have HN : Hid ((j : Int) = G) := Lib.hid (by rw [← hG.out, HS.out, hp]; rfl)
        have HC := Lib.hid (show ∀ W, Below w.heap.size w W → Calls Tryd.prog k #[SpanD.v x] W (Ret (.bool true) W) from fun W h => by have := HC.out W HM.out h; rwa [hp] at this)
        clear hp
        go_wp2_with ((with_reducible show Calls _ k _ _ _); refine (HC.out _ (by (with_reducible repeat first | exact Below.refl _ _ | assumption | ((first | refine Below.setCell ?_ ?_ _ | refine Below.alloc ?_ ?_ _); rotate_left; exact (by first | omega | (simp; done) | (simp; omega))) | refine Below.drew ?_ | refine Below_drewN ?_ _))).mono ?_; rintro e w1 ⟨rfl, hb⟩; have hB1 : Below w.heap.size w w1 := Below.trans (by (with_reducible repeat first | exact Below.refl _ _ | assumption | ((first | refine Below.setCell ?_ ?_ _ | refine Below.alloc ?_ ?_ _); rotate_left; exact (by first | omega | (simp; done) | (simp; omega))) | refine Below.drew ?_ | refine Below_drewN ?_ _)) (hb.mono (by first | omega | ((try simp only [World.size_alloc, World.size_setCell, size_drew, size_drewN]); omega) | (simp; done) | (simp; omega))))
        go_ret
        exact ⟨by rw [← HN.out]; rfl, by (with_reducible repeat first | exact Below.refl _ _ | assumption | ((first | refine Below.setCell ?_ ?_ _ | refine Below.alloc ?_ ?_ _); rotate_left; exact (by first | omega | (simp; done) | (simp; omega))) | refine Below.drew ?_ | refine Below_drewN ?_ _)⟩
    · have HN : Hid ((-1 : Int) = G) := Lib.hid (by rw [← hG.out, List.drop_of_length_le (by rw [HI.out.1]; omega)]; rfl)
      go_wp2
      go_ret
      exact ⟨by rw [← HN.out]; rfl, hB⟩

set_option maxHeartbeats 1000000 in
theorem containsSpan0 (k : Nat) (p : SpanD → Bool) (A : Option Addr) (len cap : Nat) (zs : List SpanD) (w : World) (hI : IsT 2 SpanD.cells w A len zs) (hl : len ≤ 1000000000000000)
    (hE : ∀ (args : Array Value) (W : World), (callFunc k args).run Tryd.prog W = .ok (.enter k args) W)
    (hk : ∀ (x : SpanD) (W : World), x ∈ zs → Below w.heap.size w W → Calls Tryd.prog k #[SpanD.v x] W (Ret (.bool (p x)) W)) :
    Calls Tryd.prog 117 #[.slice A len cap, .func (.func k) #[] #[]] w (Ret (.bool (zs.any p)) w) := by
  have HI := Lib.hid (indexSpan0 k  p A len cap zs w hI hl hE hk)
  have HA := Lib.hid (idxL_nonneg p zs)
  obtain ⟨b1, b2⟩ := idxL_bd p zs
  rw [hI.1] at b2
  clear hI hE hk
  generalize idxL p zs = G at *
  go_enter Tryd.func117, Tryd.ntmps117
  go_wp2_with (go_at_call 131; refine HI.out.mono ?_; rintro e w1 ⟨rfl, hb⟩)
  go_ret
  exact ⟨by rw [← HA.out]; rfl, hb⟩

end Go.Proofs.YtfpjhobhmcfpnaaDoor
end
