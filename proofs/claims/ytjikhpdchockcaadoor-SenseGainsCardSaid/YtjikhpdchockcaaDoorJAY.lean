import Derived.Test.YtjikhpdchockcaaDoorJAX
section
/- The specification of gains: the contract of ends where the value is not 0, over this seat's translation (written by mk_gai.py). -/
namespace Go.Proofs.YtjikhpdchockcaaDoor
set_option linter.unusedVariables false
set_option linter.unusedSimpArgs false
open Go.RowKit Go.Shelf

set_option maxRecDepth 100000 in
set_option maxHeartbeats 64000000 in
theorem ends_some (v lo hi : Int) (w : World) (v0 : -1000000000000000 ≤ v) (v1 : v ≤ 1000000000000000) (hv0 : v ≠ 0) (l0 : -1000000000000000 ≤ lo) (l1 : lo ≤ 1000000000000000) (h0 : -1000000000000000 ≤ hi) (h1 : hi ≤ 1000000000000000) (a b : Int)
    (hab : if v < 0 then a = hi * 1000 ∧ b = lo * 1000 else a = lo * 1000 ∧ b = hi * 1000) :
    Calls Tryd.prog 50 #[Pr (v, lo, hi)] w (EndsP (flo a v) (cei b v) true w) := by
  obtain ⟨W0, hW⟩ : ∃ W0, W0 = endsW w v lo hi := ⟨_, rfl⟩
  have HF : Hid (EndsF w v lo hi W0) := Lib.hid (hW ▸ endsF_of w v lo hi)
  have HW := Lib.hid hW
  clear hW
  have hvz : (v == 0) = false := by rw [beq_eq_false_iff_ne]; exact hv0
  have HV0 := Lib.hid hv0
  have HAB := Lib.hid hab
  clear hv0 hab
  have Pl := small_pw (z := lo) (by omega) (by omega)
  have Ph := small_pw (z := hi) (by omega) (by omega)
  have Pk := small_pw (z := 1000) (by omega) (by omega)
  go_enter Tryd.func50, Tryd.ntmps50
  go_upto_region 3 with fail
  rw [show ((w.alloc (.cells #[.int .i64 v, .int .i64 lo, .int .i64 hi] 61)).alloc (.cells #[.bool false, .slice none 0 0] 99)).alloc (.cells #[.bool false, .slice none 0 0] 99) = W0 from HW.out.symm]
  clear HW hvz
  obtain ⟨p0, p1, p2, b1, b2, hB0, hsz⟩ := HF.out
  go_upto_region 4 with (go_at_call 93; refine (of_big _ _ (by omega) (by omega)).mono ?_; rintro e w1 ⟨u1, rfl, V1, hb⟩; obtain ⟨A5, n5, c5, hu⟩ := V1.formS; subst hu)
  obtain ⟨wa, hwa⟩ : ∃ wa, wa = w1.alloc (.cells #[.bool (decide (v < 0)), .slice A5 n5 c5] 99) := ⟨_, rfl⟩
  have hBa : Below W0.heap.size W0 wa := by rw [hwa]; exact hb.alloc hb.size _
  have Vv : BigV wa (.agg #[.bool (decide (v < 0)), .slice A5 n5 c5]) v := by rw [hwa]; exact V1.below ((Below.refl _ _).alloc (Nat.le_refl _) _)
  have t0 : wa.cell? ⟨w1.heap.size, 0, none⟩ = some (.bool (decide (v < 0))) := by rw [hwa]; go_simp
  have t1 : wa.cell? ⟨w1.heap.size, 1, none⟩ = some (.slice A5 n5 c5) := by rw [hwa]; go_simp
  have hq5 : w1.heap.size < wa.heap.size := by rw [hwa]; simp
  have hq5w : w.heap.size + 1 + 1 < w1.heap.size := Nat.lt_of_lt_of_le hsz hb.size
  rw [← hwa]
  clear hwa hb V1
  obtain ⟨q5, hq⟩ : ∃ q, w1.heap.size = q := ⟨_, rfl⟩
  rw [hq] at t0 t1 hq5 hq5w ⊢
  clear hq
  have HF := Lib.hid (HF.out.below' hBa)
  clear p0 p1 p2 b1 b2 hB0 hsz hBa
  obtain ⟨p0, p1, p2, b1, b2, hBd, hsz⟩ := HF.out
  clear b1 b2 hBd p0
  have HJ := Jn.nil wa.drew
  go_cut [6, 7] (fun s9 s10 wx => LoHi wa (lo * 1000) (hi * 1000) s9 s10 wx)
  case first =>
    have HS : Hid (∀ w' : World, Reg (wa.heap.size) (wa) w' → (Reg (wa.heap.size) (wa) w' ∧ w'.cell? ⟨w.heap.size, 1, none⟩ = some (.int .i64 lo) ∧ w'.cell? ⟨w.heap.size, 2, none⟩ = some (.int .i64 hi))) := (fun w' h => by (have hc := h.cells; have hs := h.some; have hf := h.frozen; refine ⟨h, ?_⟩; (try simp only [World.size_alloc, World.size_setCell, size_drew, size_drewN] at hc hs hf); first | (simp (disch := omega) only [hc, hs, hf, cur_iff]; (try go_simp); done) | (simp (disch := first | omega | (simp; done)) only [hc, hs, hf, cur_iff]; (try go_simp); done) | (simp (maxDischargeDepth := 4) [hc, hs, hf, cur_iff, go_sem]; done) | (go_simp; done) | (simp (maxDischargeDepth := 4) [hc, hs, hf, cur_iff, go_sem]; go_simp))); go_region_held3 (fun w' => Reg (wa.heap.size) (wa) w' ∧ w'.cell? ⟨w.heap.size, 1, none⟩ = some (.int .i64 lo) ∧ w'.cell? ⟨w.heap.size, 2, none⟩ = some (.int .i64 hi)) (exact HS.out _ (by (repeat first | with_reducible exact Reg.refl _ _ | with_reducible exact Reg.drewN2 _ _ _ _ | with_reducible exact (‹Reg _ _ _ ∧ _›).1 | (with_reducible refine Reg.setCell ?_ ?_ _; rotate_left; exact (by first | omega | ((try simp only [World.size_alloc, World.size_setCell, size_drew, size_drewN]); omega) | (simp; done) | (simp; omega))) | with_reducible refine Reg.alloc ?_ _ | with_reducible refine Reg.drew ?_ | with_reducible refine Reg.drewN ?_ _ | (with_reducible apply Reg.call; rotate_left; with_reducible assumption)))) (first | (go_at_call 93; refine (of_big _ _ (by omega) (by omega)).mono ?_; rintro e w1 ⟨u1, rfl, V1, hb⟩; (first | (have HJ := (HJ.call hb).add V1) | (have HJ := (HJ.alloc.call hb).add V1) | (have HJ := (HJ.alloc.alloc.call hb).add V1)); clear V1; (try simp only [World.size_alloc, size_drew] at HJ); (try (obtain ⟨p0, p1, p2, p3, p4⟩ := HJ.box0; (try simp only [World.size_alloc, size_drew] at p0 p1 p2 p3 p4))); (try (obtain ⟨p5, p6, p7, p8, p9⟩ := HJ.box1; (try simp only [World.size_alloc, size_drew] at p5 p6 p7 p8 p9))); (first | (with_reducible have hk := Nat.lt_of_lt_of_le (size_alloc_lt _ _) hb.size) | (with_reducible have hk := Nat.lt_of_lt_of_le (size_alloc_drew_lt _ _) hb.size) | (with_reducible have hk := Nat.lt_of_lt_of_le hk hb.size) | skip); (try simp only [World.size_alloc, World.size_setCell, size_drew, size_drewN] at hk); obtain ⟨hc, hf⟩ := bcell hb; have hs := hb.size; (try simp only [World.size_alloc, World.size_setCell, size_drew, size_drewN] at hs)) | (go_at_call 95; (first | refine (times_big _ _ _ _ _ HJ.snd HJ.fst (by assumption) (by assumption)).mono ?_ | refine (times_big _ _ _ _ _ HJ.alloc.snd HJ.alloc.fst (by assumption) (by assumption)).mono ?_ | refine (times_big _ _ _ _ _ HJ.alloc.alloc.snd HJ.alloc.alloc.fst (by assumption) (by assumption)).mono ?_); rintro e w1 ⟨u1, rfl, V1, hb⟩; obtain ⟨A1, n1, c1, hu⟩ := V1.formS; subst hu; (first | (have HJ := (HJ.call hb).add V1) | (have HJ := (HJ.alloc.call hb).add V1) | (have HJ := (HJ.alloc.alloc.call hb).add V1)); clear V1; (try simp only [World.size_alloc, size_drew] at HJ); (try (obtain ⟨p0, p1, p2, p3, p4⟩ := HJ.box0; (try simp only [World.size_alloc, size_drew] at p0 p1 p2 p3 p4))); (try (obtain ⟨p5, p6, p7, p8, p9⟩ := HJ.box1; (try simp only [World.size_alloc, size_drew] at p5 p6 p7 p8 p9))); (first | (with_reducible have hk := Nat.lt_of_lt_of_le (size_alloc_lt _ _) hb.size) | (with_reducible have hk := Nat.lt_of_lt_of_le (size_alloc_drew_lt _ _) hb.size) | (with_reducible have hk := Nat.lt_of_lt_of_le hk hb.size) | skip); (try simp only [World.size_alloc, World.size_setCell, size_drew, size_drewN] at hk); obtain ⟨hc, hf⟩ := bcell hb; have hs := hb.size; (try simp only [World.size_alloc, World.size_setCell, size_drew, size_drewN] at hs)))
    all_goals go_wp2_with fail
    all_goals go_meet
    all_goals first | ((with_reducible refine LoHi.ss HJ ?_ ?_ ?_) <;> first | with_reducible exact HJ.ne | with_reducible exact HJ.ne.symm | (simp; done)) | ((with_reducible refine LoHi.sa HJ ?_) <;> (simp; done)) | ((with_reducible refine LoHi.as HJ ?_) <;> (simp; done)) | with_reducible exact LoHi.aa HJ | with_reducible exact LoHi.aa2 HJ
  case rest =>
    clear HJ p1 p2
    obtain ⟨x9, y9, A9, B9, n9, m9, c9, d9, rfl, rfl, l0', l1', h0', h1', VL, VH, hBx, hx9, hy9, nx, ny, hxy, hxg, hyg, fx0, fx1, fy0, fy1⟩ := hcut
    have s0 := (hBx.cell (p := ⟨q5, 0, none⟩) hq5).trans t0
    have s1 := (hBx.cell (p := ⟨q5, 1, none⟩) hq5).trans t1
    have Vv := Vv.below hBx
    have HF := Lib.hid (HF.out.below' hBx)
    have hq5x := Nat.lt_of_lt_of_le hq5 hBx.size
    have hx9g : w.heap.size + 1 + 1 < x9 := Nat.lt_of_lt_of_le hsz hxg
    have hy9g : w.heap.size + 1 + 1 < y9 := Nat.lt_of_lt_of_le hsz hyg
    have hxq : q5 < x9 := Nat.lt_of_lt_of_le hq5 hxg
    have hyq : q5 < y9 := Nat.lt_of_lt_of_le hq5 hyg
    clear hsz hBx t0 t1 hq5 hxg hyg Pl Ph Pk
    have Pa : max (lo * 1000) (-(lo * 1000)) < pw 10 := by have := pw_ten; omega
    have Pb : max (hi * 1000) (-(hi * 1000)) < pw 10 := by have := pw_ten; omega
    have Pv : max v (-v) < pw 8 := by have := pw_eight; omega
    clear l0 l1 h0 h1
    obtain ⟨p0, p1, p2, b1, b2, hBd, hsz⟩ := HF.out
    clear p1 p2
    generalize lo * 1000 = L at *
    generalize hi * 1000 = H at *
    by_cases hneg : v < 0
    · obtain ⟨rfl, rfl⟩ : a = H ∧ b = L := by have h := HAB.out; rwa [if_pos hneg] at h
      have hd : decide (v < 0) = true := decide_eq_true hneg
      clear HAB
      obtain ⟨wd, hwd⟩ : ∃ wd, wd = (((wc.setCell ⟨x9, 0, none⟩ (.bool (decide (a < 0)))).setCell ⟨x9, 1, none⟩ (.slice B9 m9 d9)).setCell ⟨y9, 0, none⟩ (.bool (decide (b < 0)))).setCell ⟨y9, 1, none⟩ (.slice A9 n9 c9) := ⟨_, rfl⟩
      have hf := put2_facts (W := wc) (na := decide (a < 0)) (A := B9) (n := m9) (c := d9) (nb := decide (b < 0)) (B := A9) (m := n9) (d := c9) (by rw [l0']; rfl) (by rw [l1']; rfl) (by rw [h0']; rfl) (by rw [h1']; rfl) hxy nx ny
      have HWD := Lib.hid hwd
      go_upto_region 7 with fail
      rw [← HWD.out]
      rw [show put2 wc x9 y9 (decide (a < 0)) B9 m9 d9 (decide (b < 0)) A9 n9 c9 = wd from HWD.out.symm] at hf
      clear HWD hwd l0' l1' h0' h1' fx0 fx1 fy0 fy1
      obtain ⟨l0', l1', h0', h1', hfb, hfd⟩ := hf
      have Va := hfb _ _ VH
      have Vb := hfb _ _ VL
      have Vv := hfb _ _ Vv
      have hBe := hfd (q5 + 1) (by omega) (by omega)
      have s0 := (hBe.cell (p := ⟨q5, 0, none⟩) (Nat.lt_succ_self _)).trans s0
      have s1 := (hBe.cell (p := ⟨q5, 1, none⟩) (Nat.lt_succ_self _)).trans s1
      have b1 := (hBe.block _ (by omega)).trans b1
      have b2 := (hBe.block _ (by omega)).trans b2
      have hBd := hBd.trans (hfd w.heap.size (by omega) (by omega))
      have hsz := Nat.lt_of_lt_of_le hsz hBe.size
      have hx9 := Nat.lt_of_lt_of_le hx9 hBe.size
      have hy9 := Nat.lt_of_lt_of_le hy9 hBe.size
      have hq5x := Nat.lt_of_lt_of_le hq5x hBe.size
      clear hfb hfd VH VL hBe nx ny
      obtain ⟨e0, e1, e2, e3, e4⟩ := (Jn.nil wd).oldBox b1
      obtain ⟨f0, f1, f2, f3, f4⟩ := (Jn.nil wd).oldBox b2
      rw [hd] at *
      have hv0 := HV0.out
      have HJ := (((Jn.nil wd.drew).add (show BigV wd.drew (.agg #[.bool (true), .slice A5 n5 c5]) v from Vv.below ((Below.refl _ _).drew))).add (show BigV wd.drew (.agg #[.bool (decide (b < 0)), .slice A9 n9 c9]) (b) from Vb.below ((Below.refl _ _).drew))).add (show BigV wd.drew (.agg #[.bool (decide (a < 0)), .slice B9 m9 d9]) (a) from Va.below ((Below.refl _ _).drew))
      clear Va Vb Vv
      have HB := Jb.nil wd.drew.heap.size wd.drew
      have BB1 := e4
      have BB2 := f4
      have HS : Hid (∀ w' : World, Reg2 (w.heap.size + 1) (w.heap.size + 1 + 1) (wd) w' → (Reg2 (w.heap.size + 1) (w.heap.size + 1 + 1) (wd) w' ∧ w'.cell? ⟨x9, 0, none⟩ = some (.bool (decide (a < 0))) ∧ w'.cell? ⟨x9, 1, none⟩ = some (.slice B9 m9 d9) ∧ w'.cell? ⟨y9, 0, none⟩ = some (.bool (decide (b < 0))) ∧ w'.cell? ⟨y9, 1, none⟩ = some (.slice A9 n9 c9) ∧ w'.cell? ⟨q5, 0, none⟩ = some (.bool (true)) ∧ w'.cell? ⟨q5, 1, none⟩ = some (.slice A5 n5 c5) ∧ w'.cell? ⟨w.heap.size + 1, 0, none⟩ = some (cur w' ⟨w.heap.size + 1, 0, none⟩) ∧ w'.frozen? ⟨w.heap.size + 1, 0, none⟩ = false ∧ w'.cell? ⟨w.heap.size + 1, 1, none⟩ = some (cur w' ⟨w.heap.size + 1, 1, none⟩) ∧ w'.frozen? ⟨w.heap.size + 1, 1, none⟩ = false ∧ w'.cell? ⟨w.heap.size + 1 + 1, 0, none⟩ = some (cur w' ⟨w.heap.size + 1 + 1, 0, none⟩) ∧ w'.frozen? ⟨w.heap.size + 1 + 1, 0, none⟩ = false ∧ w'.cell? ⟨w.heap.size + 1 + 1, 1, none⟩ = some (cur w' ⟨w.heap.size + 1 + 1, 1, none⟩) ∧ w'.frozen? ⟨w.heap.size + 1 + 1, 1, none⟩ = false)) := (fun w' h => by (have hc := h.cells; have hs := h.some; have hf := h.frozen; refine ⟨h, ?_⟩; (try simp only [World.size_alloc, World.size_setCell, size_drew, size_drewN] at hc hs hf); first | (simp (disch := omega) only [hc, hs, hf, cur_iff]; (try go_simp); done) | (simp (disch := first | omega | (simp; done)) only [hc, hs, hf, cur_iff]; (try go_simp); done) | (simp (maxDischargeDepth := 4) [hc, hs, hf, cur_iff, go_sem]; done) | (go_simp; done) | (simp (maxDischargeDepth := 4) [hc, hs, hf, cur_iff, go_sem]; go_simp))); go_region_held3 (fun w' => Reg2 (w.heap.size + 1) (w.heap.size + 1 + 1) (wd) w' ∧ w'.cell? ⟨x9, 0, none⟩ = some (.bool (decide (a < 0))) ∧ w'.cell? ⟨x9, 1, none⟩ = some (.slice B9 m9 d9) ∧ w'.cell? ⟨y9, 0, none⟩ = some (.bool (decide (b < 0))) ∧ w'.cell? ⟨y9, 1, none⟩ = some (.slice A9 n9 c9) ∧ w'.cell? ⟨q5, 0, none⟩ = some (.bool (true)) ∧ w'.cell? ⟨q5, 1, none⟩ = some (.slice A5 n5 c5) ∧ w'.cell? ⟨w.heap.size + 1, 0, none⟩ = some (cur w' ⟨w.heap.size + 1, 0, none⟩) ∧ w'.frozen? ⟨w.heap.size + 1, 0, none⟩ = false ∧ w'.cell? ⟨w.heap.size + 1, 1, none⟩ = some (cur w' ⟨w.heap.size + 1, 1, none⟩) ∧ w'.frozen? ⟨w.heap.size + 1, 1, none⟩ = false ∧ w'.cell? ⟨w.heap.size + 1 + 1, 0, none⟩ = some (cur w' ⟨w.heap.size + 1 + 1, 0, none⟩) ∧ w'.frozen? ⟨w.heap.size + 1 + 1, 0, none⟩ = false ∧ w'.cell? ⟨w.heap.size + 1 + 1, 1, none⟩ = some (cur w' ⟨w.heap.size + 1 + 1, 1, none⟩) ∧ w'.frozen? ⟨w.heap.size + 1 + 1, 1, none⟩ = false) (exact HS.out _ (by (repeat first | with_reducible exact Reg2.refl _ _ _ | with_reducible exact Reg2.drewN2 _ _ _ _ _ | with_reducible exact (‹Reg2 _ _ _ _ ∧ _›).1 | (with_reducible refine Reg2.setCell ?_ ?_ _; rotate_left; exact (by first | omega | ((try simp only [World.size_alloc, World.size_setCell, size_drew, size_drewN]); omega) | (simp; done) | (simp; omega))) | with_reducible refine Reg2.alloc ?_ _ | with_reducible refine Reg2.drew ?_ | with_reducible refine Reg2.drewN ?_ _ | (with_reducible apply Reg2.call; rotate_left; with_reducible assumption)))) (first | (go_at_call 96; have q1 := HJ.bigs ((.agg #[.bool (decide (a < 0)), .slice B9 m9 d9] : Value), a) (by simp); have q2 := HJ.bigs ((.agg #[.bool (true), .slice A5 n5 c5] : Value), v) (by simp); refine (floor_big (a) v _ _ _ q1 q2 (by assumption) Pv hv0).mono ?_; rintro e w1 ⟨u1, rfl, V1, hb⟩; obtain ⟨A1, n1, c1, hu⟩ := V1.big.formS; subst hu; have HB := (HB.call hb).add (V1.mono HJ.below.size); have HJ := (HJ.call hb).add V1.big; clear V1 q1 q2; (first | (with_reducible have hk := Nat.lt_of_lt_of_le (size_alloc_lt _ _) hb.size) | (with_reducible have hk := Nat.lt_of_lt_of_le (size_alloc_drew_lt _ _) hb.size) | (with_reducible have hk := Nat.lt_of_lt_of_le hk hb.size) | skip); (try simp only [World.size_alloc, World.size_setCell, size_drew, size_drewN] at hk); obtain ⟨hc, hf⟩ := bcell hb; have hs := hb.size; (try simp only [World.size_alloc, World.size_setCell, size_drew, size_drewN] at hs)) | (go_at_call 97; have q1 := HJ.bigs ((.agg #[.bool (decide (b < 0)), .slice A9 n9 c9] : Value), b) (by simp); have q2 := HJ.bigs ((.agg #[.bool (true), .slice A5 n5 c5] : Value), v) (by simp); refine (ceil_big (b) v _ _ _ q1 q2 (by assumption) Pv hv0).mono ?_; rintro e w1 ⟨u1, rfl, V1, hb⟩; obtain ⟨A1, n1, c1, hu⟩ := V1.big.formS; subst hu; have HB := (HB.call hb).add (V1.mono HJ.below.size); have HJ := (HJ.call hb).add V1.big; clear V1 q1 q2; (first | (with_reducible have hk := Nat.lt_of_lt_of_le (size_alloc_lt _ _) hb.size) | (with_reducible have hk := Nat.lt_of_lt_of_le (size_alloc_drew_lt _ _) hb.size) | (with_reducible have hk := Nat.lt_of_lt_of_le hk hb.size) | skip); (try simp only [World.size_alloc, World.size_setCell, size_drew, size_drewN] at hk); obtain ⟨hc, hf⟩ := bcell hb; have hs := hb.size; (try simp only [World.size_alloc, World.size_setCell, size_drew, size_drewN] at hs)))
      all_goals go_wp2_with fail
      all_goals exact bodyPost_ret (ends_res Tryd.results50 _ _ HJ b1 b2 (by omega) rfl rfl rfl) rfl (ends_fin HJ HB (by simpa using BB1) (by simpa using BB2) (by simp) (by simp) hBd.drew (by omega) (by omega) _)
    · obtain ⟨rfl, rfl⟩ : a = L ∧ b = H := by have h := HAB.out; rwa [if_neg hneg] at h
      have hd : decide (v < 0) = false := decide_eq_false hneg
      clear HAB
      go_upto_region 7 with fail
      obtain ⟨wd, hwd⟩ : ∃ wd, wd = wc := ⟨_, rfl⟩
      subst hwd
      have Va := VL
      have Vb := VH
      clear VL VH nx ny
      obtain ⟨e0, e1, e2, e3, e4⟩ := (Jn.nil wd).oldBox b1
      obtain ⟨f0, f1, f2, f3, f4⟩ := (Jn.nil wd).oldBox b2
      rw [hd] at *
      have hv0 := HV0.out
      have HJ := (((Jn.nil wd.drew).add (show BigV wd.drew (.agg #[.bool (false), .slice A5 n5 c5]) v from Vv.below ((Below.refl _ _).drew))).add (show BigV wd.drew (.agg #[.bool (decide (b < 0)), .slice B9 m9 d9]) (b) from Vb.below ((Below.refl _ _).drew))).add (show BigV wd.drew (.agg #[.bool (decide (a < 0)), .slice A9 n9 c9]) (a) from Va.below ((Below.refl _ _).drew))
      clear Va Vb Vv
      have HB := Jb.nil wd.drew.heap.size wd.drew
      have BB1 := e4
      have BB2 := f4
      have HS : Hid (∀ w' : World, Reg2 (w.heap.size + 1) (w.heap.size + 1 + 1) (wd) w' → (Reg2 (w.heap.size + 1) (w.heap.size + 1 + 1) (wd) w' ∧ w'.cell? ⟨x9, 0, none⟩ = some (.bool (decide (a < 0))) ∧ w'.cell? ⟨x9, 1, none⟩ = some (.slice A9 n9 c9) ∧ w'.cell? ⟨y9, 0, none⟩ = some (.bool (decide (b < 0))) ∧ w'.cell? ⟨y9, 1, none⟩ = some (.slice B9 m9 d9) ∧ w'.cell? ⟨q5, 0, none⟩ = some (.bool (false)) ∧ w'.cell? ⟨q5, 1, none⟩ = some (.slice A5 n5 c5) ∧ w'.cell? ⟨w.heap.size + 1, 0, none⟩ = some (cur w' ⟨w.heap.size + 1, 0, none⟩) ∧ w'.frozen? ⟨w.heap.size + 1, 0, none⟩ = false ∧ w'.cell? ⟨w.heap.size + 1, 1, none⟩ = some (cur w' ⟨w.heap.size + 1, 1, none⟩) ∧ w'.frozen? ⟨w.heap.size + 1, 1, none⟩ = false ∧ w'.cell? ⟨w.heap.size + 1 + 1, 0, none⟩ = some (cur w' ⟨w.heap.size + 1 + 1, 0, none⟩) ∧ w'.frozen? ⟨w.heap.size + 1 + 1, 0, none⟩ = false ∧ w'.cell? ⟨w.heap.size + 1 + 1, 1, none⟩ = some (cur w' ⟨w.heap.size + 1 + 1, 1, none⟩) ∧ w'.frozen? ⟨w.heap.size + 1 + 1, 1, none⟩ = false)) := (fun w' h => by (have hc := h.cells; have hs := h.some; have hf := h.frozen; refine ⟨h, ?_⟩; (try simp only [World.size_alloc, World.size_setCell, size_drew, size_drewN] at hc hs hf); first | (simp (disch := omega) only [hc, hs, hf, cur_iff]; (try go_simp); done) | (simp (disch := first | omega | (simp; done)) only [hc, hs, hf, cur_iff]; (try go_simp); done) | (simp (maxDischargeDepth := 4) [hc, hs, hf, cur_iff, go_sem]; done) | (go_simp; done) | (simp (maxDischargeDepth := 4) [hc, hs, hf, cur_iff, go_sem]; go_simp))); go_region_held3 (fun w' => Reg2 (w.heap.size + 1) (w.heap.size + 1 + 1) (wd) w' ∧ w'.cell? ⟨x9, 0, none⟩ = some (.bool (decide (a < 0))) ∧ w'.cell? ⟨x9, 1, none⟩ = some (.slice A9 n9 c9) ∧ w'.cell? ⟨y9, 0, none⟩ = some (.bool (decide (b < 0))) ∧ w'.cell? ⟨y9, 1, none⟩ = some (.slice B9 m9 d9) ∧ w'.cell? ⟨q5, 0, none⟩ = some (.bool (false)) ∧ w'.cell? ⟨q5, 1, none⟩ = some (.slice A5 n5 c5) ∧ w'.cell? ⟨w.heap.size + 1, 0, none⟩ = some (cur w' ⟨w.heap.size + 1, 0, none⟩) ∧ w'.frozen? ⟨w.heap.size + 1, 0, none⟩ = false ∧ w'.cell? ⟨w.heap.size + 1, 1, none⟩ = some (cur w' ⟨w.heap.size + 1, 1, none⟩) ∧ w'.frozen? ⟨w.heap.size + 1, 1, none⟩ = false ∧ w'.cell? ⟨w.heap.size + 1 + 1, 0, none⟩ = some (cur w' ⟨w.heap.size + 1 + 1, 0, none⟩) ∧ w'.frozen? ⟨w.heap.size + 1 + 1, 0, none⟩ = false ∧ w'.cell? ⟨w.heap.size + 1 + 1, 1, none⟩ = some (cur w' ⟨w.heap.size + 1 + 1, 1, none⟩) ∧ w'.frozen? ⟨w.heap.size + 1 + 1, 1, none⟩ = false) (exact HS.out _ (by (repeat first | with_reducible exact Reg2.refl _ _ _ | with_reducible exact Reg2.drewN2 _ _ _ _ _ | with_reducible exact (‹Reg2 _ _ _ _ ∧ _›).1 | (with_reducible refine Reg2.setCell ?_ ?_ _; rotate_left; exact (by first | omega | ((try simp only [World.size_alloc, World.size_setCell, size_drew, size_drewN]); omega) | (simp; done) | (simp; omega))) | with_reducible refine Reg2.alloc ?_ _ | with_reducible refine Reg2.drew ?_ | with_reducible refine Reg2.drewN ?_ _ | (with_reducible apply Reg2.call; rotate_left; with_reducible assumption)))) (first | (go_at_call 96; have q1 := HJ.bigs ((.agg #[.bool (decide (a < 0)), .slice A9 n9 c9] : Value), a) (by simp); have q2 := HJ.bigs ((.agg #[.bool (false), .slice A5 n5 c5] : Value), v) (by simp); refine (floor_big (a) v _ _ _ q1 q2 (by assumption) Pv hv0).mono ?_; rintro e w1 ⟨u1, rfl, V1, hb⟩; obtain ⟨A1, n1, c1, hu⟩ := V1.big.formS; subst hu; have HB := (HB.call hb).add (V1.mono HJ.below.size); have HJ := (HJ.call hb).add V1.big; clear V1 q1 q2; (first | (with_reducible have hk := Nat.lt_of_lt_of_le (size_alloc_lt _ _) hb.size) | (with_reducible have hk := Nat.lt_of_lt_of_le (size_alloc_drew_lt _ _) hb.size) | (with_reducible have hk := Nat.lt_of_lt_of_le hk hb.size) | skip); (try simp only [World.size_alloc, World.size_setCell, size_drew, size_drewN] at hk); obtain ⟨hc, hf⟩ := bcell hb; have hs := hb.size; (try simp only [World.size_alloc, World.size_setCell, size_drew, size_drewN] at hs)) | (go_at_call 97; have q1 := HJ.bigs ((.agg #[.bool (decide (b < 0)), .slice B9 m9 d9] : Value), b) (by simp); have q2 := HJ.bigs ((.agg #[.bool (false), .slice A5 n5 c5] : Value), v) (by simp); refine (ceil_big (b) v _ _ _ q1 q2 (by assumption) Pv hv0).mono ?_; rintro e w1 ⟨u1, rfl, V1, hb⟩; obtain ⟨A1, n1, c1, hu⟩ := V1.big.formS; subst hu; have HB := (HB.call hb).add (V1.mono HJ.below.size); have HJ := (HJ.call hb).add V1.big; clear V1 q1 q2; (first | (with_reducible have hk := Nat.lt_of_lt_of_le (size_alloc_lt _ _) hb.size) | (with_reducible have hk := Nat.lt_of_lt_of_le (size_alloc_drew_lt _ _) hb.size) | (with_reducible have hk := Nat.lt_of_lt_of_le hk hb.size) | skip); (try simp only [World.size_alloc, World.size_setCell, size_drew, size_drewN] at hk); obtain ⟨hc, hf⟩ := bcell hb; have hs := hb.size; (try simp only [World.size_alloc, World.size_setCell, size_drew, size_drewN] at hs)))
      all_goals go_wp2_with fail
      all_goals exact bodyPost_ret (ends_res Tryd.results50 _ _ HJ b1 b2 (by omega) rfl rfl rfl) rfl (ends_fin HJ HB (by simpa using BB1) (by simpa using BB2) (by simp) (by simp) hBd.drew (by omega) (by omega) _)

end Go.Proofs.YtjikhpdchockcaaDoor
end
