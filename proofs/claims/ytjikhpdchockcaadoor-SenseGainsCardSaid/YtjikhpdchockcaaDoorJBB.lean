import Derived.Test.YtjikhpdchockcaaDoorJBA
section
/- The specification of gains: the contract of met, over this seat's translation (written by mk_gaf.py). -/
namespace Go.Proofs.YtjikhpdchockcaaDoor
set_option linter.unusedVariables false
set_option linter.unusedSimpArgs false
open Go.RowKit Go.Shelf

theorem ends_bd {x : Tri} (hok : okP x = true) : (-1000000000000000001 ≤ (endsL x).1 ∧ (endsL x).1 ≤ 1000000000000000001) ∧ (-1000000000000000001 ≤ (endsL x).2.1 ∧ (endsL x).2.1 ≤ 1000000000000000001) := by
  obtain ⟨v, lo, hi⟩ := x
  obtain ⟨⟨v0, v1⟩, le, l0, h0⟩ := okP_iff.1 hok
  dsimp only at v0 v1 le l0 h0
  unfold endsL
  dsimp only
  by_cases hz : v = 0
  · rw [if_pos hz]; dsimp only; omega
  · rw [if_neg hz]
    have a1 := flo_bd (lo * 1000) v (by omega) (by omega) hz
    have a2 := flo_bd (hi * 1000) v (by omega) (by omega) hz
    have b1 := flo_bd (-(lo * 1000)) v (by omega) (by omega) hz
    have b2 := flo_bd (-(hi * 1000)) v (by omega) (by omega) hz
    unfold cei
    by_cases hn : v < 0
    · rw [if_pos hn]; dsimp only; omega
    · rw [if_neg hn]; dsimp only; omega
theorem nearL_bd (z : Int) : -1000000001 ≤ nearL z ∧ nearL z ≤ 1000000001 := by unfold nearL; split <;> (try split) <;> omega
theorem metGo_drop {s : Int × Int} {l : List Tri} {k : Nat} {x : Tri} (h : l[k]? = some x) : metGo s (l.drop k) = if (endsL x).2.2 = true then metGo (nrw s x) (l.drop (k + 1)) else (s, false) := by
  obtain ⟨hk, rfl⟩ := List.getElem?_eq_some_iff.1 h
  rw [List.drop_eq_getElem_cons hk]; rfl

theorem res3kk {fn : Func} {p u : Tmp} (h : fn.results = #[.cell p 57, .tmp u]) (tmps : Array Value) (W : World) (b : Nat) (x y z : Value)
    (hp : tmps.getD p undef = .pointer (some ⟨b, 0, none⟩)) (hu : tmps.getD u undef = z) (h0 : (W.cell? ⟨b, 0, none⟩).isSome = true) (h1 : (W.cell? ⟨b, 1, none⟩).isSome = true) :
    (results fn tmps).run Tryd.prog ((W.setCell ⟨b, 0, none⟩ x).setCell ⟨b, 1, none⟩ y).drew = .ok (.tuple #[.agg #[x, y], z]) ((W.setCell ⟨b, 0, none⟩ x).setCell ⟨b, 1, none⟩ y).drew := by
  have n1 : (⟨b, 1, none⟩ : Addr) ≠ ⟨b, 0, none⟩ := by simp
  have n0 : (⟨b, 0, none⟩ : Addr) ≠ ⟨b, 1, none⟩ := by simp
  have e1 : ((W.setCell ⟨b, 0, none⟩ x).setCell ⟨b, 1, none⟩ y).drew.cell? ⟨b, 0, none⟩ = some x := by
    rw [World.cell?_drew]; exact (World.cell?_setCell_other _ _ _ _ n1).trans (World.cell?_setCell_same' _ _ _ h0)
  have e2 : ((W.setCell ⟨b, 0, none⟩ x).setCell ⟨b, 1, none⟩ y).drew.cell? ⟨b, 1, none⟩ = some y := by
    rw [World.cell?_drew]; exact World.cell?_setCell_same' _ _ _ (by rw [World.cell?_setCell_other _ _ _ _ n0]; exact h1)
  rw [results_cell_tmp h, hp, hu]
  simp [go_sem, e1, e2]
theorem res3hh {fn : Func} {p u : Tmp} (h : fn.results = #[.cell p 57, .tmp u]) (tmps : Array Value) (W : World) (b : Nat) (x y z : Value)
    (hp : tmps.getD p undef = .pointer (some ⟨b, 0, none⟩)) (hu : tmps.getD u undef = z) (h0 : (W.cell? ⟨b, 0, none⟩).isSome = true) (h1 : (W.cell? ⟨b, 1, none⟩).isSome = true) :
    (results fn tmps).run Tryd.prog ((W.drew.setCell ⟨b, 0, none⟩ x).setCell ⟨b, 1, none⟩ y) = .ok (.tuple #[.agg #[x, y], z]) ((W.drew.setCell ⟨b, 0, none⟩ x).setCell ⟨b, 1, none⟩ y) :=
  res3 h tmps W.drew b x y z hp hu (by rw [World.cell?_drew]; exact h0) (by rw [World.cell?_drew]; exact h1)

set_option maxRecDepth 100000 in
set_option maxHeartbeats 16000000 in
theorem rmet_any (A : Option Addr) (len cap : Nat) (zs : List Tri) (w : World) (hI : IsT 3 pairCells w A len zs) (hl : len ≤ 1000000000000000) (hok : allOk zs = true) :
    Calls Tryd.prog 55 #[.slice A len cap] w (Ret (.tuple #[.agg #[.int .i64 (metL zs).1.1, .int .i64 (metL zs).1.2], .bool (metL zs).2]) w) := by
  have HI := Lib.hid hI
  have HO := Lib.hid (fun (x : Tri) (hx : x ∈ zs) => allOk_mem hok hx)
  have HG : Hid (metGo (-1000000000, 1000000000) zs = metL zs) := Lib.hid rfl
  generalize metL zs = G at *
  clear hI hok
  go_enter Tryd.func55, Tryd.ntmps55
  go_wp2_with fail
  go_loopw [5, 6, 7, 8, 9, 10] (fun i _ _ _ _ _ wr => ∃ (j : Nat) (s1 s2 : Int), j ≤ len ∧ i = .int .i64 j ∧ -1000000001 ≤ s1 ∧ s1 ≤ 1000000001 ∧ -1000000001 ≤ s2 ∧ s2 ≤ 1000000001 ∧ Hid (metGo (s1, s2) (zs.drop j) = G) ∧ wr.cell? ⟨w.heap.size + 1, 0, none⟩ = some (.int .i64 s1) ∧ wr.cell? ⟨w.heap.size + 1, 1, none⟩ = some (.int .i64 s2) ∧ wr.frozen? ⟨w.heap.size + 1, 0, none⟩ = false ∧ wr.frozen? ⟨w.heap.size + 1, 1, none⟩ = false ∧ wr.cell? ⟨w.heap.size, 0, none⟩ = some (.int .i64 0) ∧ wr.cell? ⟨w.heap.size, 1, none⟩ = some (.int .i64 0) ∧ wr.frozen? ⟨w.heap.size, 0, none⟩ = false ∧ wr.frozen? ⟨w.heap.size, 1, none⟩ = false ∧ w.heap.size + 1 < wr.heap.size ∧ Below w.heap.size w wr) (fun i _ _ _ _ _ _ => len - (intOf i).toNat)
  case atStart => exact ⟨0, -1000000000, 1000000000, Nat.zero_le _, rfl, by omega, by omega, by omega, by omega, Lib.hid HG.out, by go_simp, by go_simp, by go_simp, by go_simp, by go_simp, by go_simp, by go_simp, by go_simp, by simp, by (repeat first | with_reducible exact Below.refl _ _ | with_reducible assumption | (with_reducible refine Below.setCell ?_ ?_ _; rotate_left; exact (by first | omega | (simp; done) | (simp; omega))) | (with_reducible refine Below.alloc ?_ ?_ _; rotate_left; exact (by first | omega | (simp; done) | (simp; omega))) | with_reducible refine Below.drew ?_ | with_reducible refine Below_drewN ?_ _)⟩
  case round =>
    obtain ⟨j, s1, s2, hj, rfl, b1, b2, b3, b4, hG, p0, p1, g0, g1, r0, r1, h0, h1, hq, hB⟩ := hrel
    have hqr : w.heap.size < wr.heap.size := by omega
    by_cases hlt : j < len
    · obtain ⟨hzl, hcl⟩ := HI.out.below hB
      obtain ⟨b, o, rfl, hb0, hcl⟩ := hcl (by omega)
      obtain ⟨x, hx⟩ : ∃ x, zs[j]? = some x := ⟨_, List.getElem?_eq_getElem (by omega)⟩
      have hxo := HO.out x (List.mem_of_getElem? hx)
      have x0 : wr.cell? ⟨b, o + j * 3, none⟩ = some (.int .i64 x.1) := by have h := hcl j x hx 0 _ rfl; simpa using h
      have x1 : wr.cell? ⟨b, o + j * 3 + 1, none⟩ = some (.int .i64 x.2.1) := by have h := hcl j x hx 1 _ rfl; simpa using h
      have x2 : wr.cell? ⟨b, o + j * 3 + 2, none⟩ = some (.int .i64 x.2.2) := by have h := hcl j x hx 2 _ rfl; simpa using h
      have HS := Lib.hid (hG.out.symm.trans (metGo_drop hx))
      have HE := Lib.hid (fun W => rends_any x hxo W)
      obtain ⟨⟨ea0, ea1⟩, eb0, eb1⟩ := ends_bd hxo
      unfold nrw at HS
      clear hcl hx hzl hG hxo
      have jc : (0 : Int) ≤ j := by omega
      have jn : ((j : Int)).toNat = j := by omega
      have hsz := hB.size
      generalize (endsL x).1 = a at *
      generalize (endsL x).2.1 = c at *
      generalize (endsL x).2.2 = ok at *
      obtain ⟨v, lo, hi⟩ := x
      dsimp only at x0 x1 x2
      have Pa : max a (-a) < pw 10 := by have := pw_ten; omega
      have Pc : max c (-c) < pw 10 := by have := pw_ten; omega
      clear ea0 ea1 eb0 eb1
      have HE := Lib.hid (show ∀ W, Calls Tryd.prog 50 #[.agg #[.int .i64 v, .int .i64 lo, .int .i64 hi]] W (EndsP a c ok W) from HE.out)
      cases ok
      · have HN : Hid (((s1, s2), false) = G) := Lib.hid (by rw [HS.out]; rfl)
        clear HS Pa Pc
        go_wp2_with fail
        refine (HE.out _).mono ?_
        rintro e w1 ⟨u1, v1, rfl, U1, V1, hb⟩
        obtain ⟨A1, n1, c1, hu⟩ := U1.big.formS
        subst hu
        obtain ⟨A2, n2, c2, hv⟩ := V1.big.formS
        subst hv
        clear U1 V1
        generalize decide (a < 0) = na at *
        generalize decide (c < 0) = nc at *
        have p0a : w1.cell? ⟨w.heap.size + 1, 0, none⟩ = some (.int .i64 s1) := by rw [hb.cell (p := ⟨w.heap.size + 1, 0, none⟩) (by first | omega | ((try simp only [World.size_alloc, World.size_setCell, size_drew, size_drewN]); omega) | (simp; done) | (simp; omega))]; go_simp
        have p1a : w1.cell? ⟨w.heap.size + 1, 1, none⟩ = some (.int .i64 s2) := by rw [hb.cell (p := ⟨w.heap.size + 1, 1, none⟩) (by first | omega | ((try simp only [World.size_alloc, World.size_setCell, size_drew, size_drewN]); omega) | (simp; done) | (simp; omega))]; go_simp
        have g0a : w1.frozen? ⟨w.heap.size + 1, 0, none⟩ = false := by rw [hb.frozen (p := ⟨w.heap.size + 1, 0, none⟩) (by first | omega | ((try simp only [World.size_alloc, World.size_setCell, size_drew, size_drewN]); omega) | (simp; done) | (simp; omega))]; go_simp
        have g1a : w1.frozen? ⟨w.heap.size + 1, 1, none⟩ = false := by rw [hb.frozen (p := ⟨w.heap.size + 1, 1, none⟩) (by first | omega | ((try simp only [World.size_alloc, World.size_setCell, size_drew, size_drewN]); omega) | (simp; done) | (simp; omega))]; go_simp
        have r0a : w1.cell? ⟨w.heap.size, 0, none⟩ = some (.int .i64 0) := by rw [hb.cell (p := ⟨w.heap.size, 0, none⟩) (by first | omega | ((try simp only [World.size_alloc, World.size_setCell, size_drew, size_drewN]); omega) | (simp; done) | (simp; omega))]; go_simp
        have r1a : w1.cell? ⟨w.heap.size, 1, none⟩ = some (.int .i64 0) := by rw [hb.cell (p := ⟨w.heap.size, 1, none⟩) (by first | omega | ((try simp only [World.size_alloc, World.size_setCell, size_drew, size_drewN]); omega) | (simp; done) | (simp; omega))]; go_simp
        have h0a : w1.frozen? ⟨w.heap.size, 0, none⟩ = false := by rw [hb.frozen (p := ⟨w.heap.size, 0, none⟩) (by first | omega | ((try simp only [World.size_alloc, World.size_setCell, size_drew, size_drewN]); omega) | (simp; done) | (simp; omega))]; go_simp
        have h1a : w1.frozen? ⟨w.heap.size, 1, none⟩ = false := by rw [hb.frozen (p := ⟨w.heap.size, 1, none⟩) (by first | omega | ((try simp only [World.size_alloc, World.size_setCell, size_drew, size_drewN]); omega) | (simp; done) | (simp; omega))]; go_simp
        have hB1 : Below w.heap.size w w1 := hB.trans (hb.mono hB.size)
        have hq1 : w.heap.size + 1 < w1.heap.size := Nat.lt_of_lt_of_le hq hb.size
        have hq10 : w.heap.size < w1.heap.size := by omega
        clear hb p0 p1 g0 g1 r0 r1 h0 h1 x0 x1 x2
        go_wp2_with fail
        exact bodyPost_ret (res3p Tryd.results55 _ _ _ (.int .i64 s1) (.int .i64 s2) (.bool false) rfl rfl (by go_simp) (by go_simp)) rfl ⟨by rw [← HN.out], by (repeat first | with_reducible exact Below.refl _ _ | with_reducible assumption | (with_reducible refine Below.setCell ?_ ?_ _; rotate_left; exact (by first | omega | (simp; done) | (simp; omega))) | (with_reducible refine Below.alloc ?_ ?_ _; rotate_left; exact (by first | omega | (simp; done) | (simp; omega))) | with_reducible refine Below.drew ?_ | with_reducible refine Below_drewN ?_ _)⟩
      · have HS := Lib.hid (HS.out.trans (if_pos rfl))
        have HN1 := Lib.hid (fun W u (h : BigV W u a) => rnear_any a u W h Pa)
        have HN2 := Lib.hid (fun W u (h : BigV W u c) => rnear_any c u W h Pc)
        obtain ⟨na0, na1⟩ := nearL_bd a
        obtain ⟨nc0, nc1⟩ := nearL_bd c
        clear Pa Pc
        generalize nearL a = ya at *
        generalize nearL c = yc at *
        go_wp2_with fail
        refine (HE.out _).mono ?_
        rintro e w1 ⟨u1, v1, rfl, U1, V1, hb⟩
        obtain ⟨A1, n1, c1, hu⟩ := U1.big.formS
        subst hu
        obtain ⟨A2, n2, c2, hv⟩ := V1.big.formS
        subst hv
        have HN1 := Lib.hid (fun W (h : Below w1.heap.size w1 W) => HN1.out W _ (U1.big.below h))
        have HV1 := Lib.hid V1
        clear U1 V1
        generalize decide (a < 0) = na at *
        generalize decide (c < 0) = nc at *
        have p0a : w1.cell? ⟨w.heap.size + 1, 0, none⟩ = some (.int .i64 s1) := by rw [hb.cell (p := ⟨w.heap.size + 1, 0, none⟩) (by first | omega | ((try simp only [World.size_alloc, World.size_setCell, size_drew, size_drewN]); omega) | (simp; done) | (simp; omega))]; go_simp
        have p1a : w1.cell? ⟨w.heap.size + 1, 1, none⟩ = some (.int .i64 s2) := by rw [hb.cell (p := ⟨w.heap.size + 1, 1, none⟩) (by first | omega | ((try simp only [World.size_alloc, World.size_setCell, size_drew, size_drewN]); omega) | (simp; done) | (simp; omega))]; go_simp
        have g0a : w1.frozen? ⟨w.heap.size + 1, 0, none⟩ = false := by rw [hb.frozen (p := ⟨w.heap.size + 1, 0, none⟩) (by first | omega | ((try simp only [World.size_alloc, World.size_setCell, size_drew, size_drewN]); omega) | (simp; done) | (simp; omega))]; go_simp
        have g1a : w1.frozen? ⟨w.heap.size + 1, 1, none⟩ = false := by rw [hb.frozen (p := ⟨w.heap.size + 1, 1, none⟩) (by first | omega | ((try simp only [World.size_alloc, World.size_setCell, size_drew, size_drewN]); omega) | (simp; done) | (simp; omega))]; go_simp
        have r0a : w1.cell? ⟨w.heap.size, 0, none⟩ = some (.int .i64 0) := by rw [hb.cell (p := ⟨w.heap.size, 0, none⟩) (by first | omega | ((try simp only [World.size_alloc, World.size_setCell, size_drew, size_drewN]); omega) | (simp; done) | (simp; omega))]; go_simp
        have r1a : w1.cell? ⟨w.heap.size, 1, none⟩ = some (.int .i64 0) := by rw [hb.cell (p := ⟨w.heap.size, 1, none⟩) (by first | omega | ((try simp only [World.size_alloc, World.size_setCell, size_drew, size_drewN]); omega) | (simp; done) | (simp; omega))]; go_simp
        have h0a : w1.frozen? ⟨w.heap.size, 0, none⟩ = false := by rw [hb.frozen (p := ⟨w.heap.size, 0, none⟩) (by first | omega | ((try simp only [World.size_alloc, World.size_setCell, size_drew, size_drewN]); omega) | (simp; done) | (simp; omega))]; go_simp
        have h1a : w1.frozen? ⟨w.heap.size, 1, none⟩ = false := by rw [hb.frozen (p := ⟨w.heap.size, 1, none⟩) (by first | omega | ((try simp only [World.size_alloc, World.size_setCell, size_drew, size_drewN]); omega) | (simp; done) | (simp; omega))]; go_simp
        have hB1 : Below w.heap.size w w1 := hB.trans (hb.mono hB.size)
        have hq1 : w.heap.size + 1 < w1.heap.size := Nat.lt_of_lt_of_le hq hb.size
        have hq10 : w.heap.size < w1.heap.size := by omega
        have hwr : w.heap.size + 1 < wr.heap.size := hq
        have hsw := hb.size
        clear hb p0 p1 g0 g1 r0 r1 h0 h1 x0 x1 x2
        go_wp2_with fail
        refine (HN1.out _ (by (repeat first | with_reducible exact Below.refl _ _ | with_reducible assumption | (with_reducible refine Below.setCell ?_ ?_ _; rotate_left; exact (by first | omega | (simp; done) | (simp; omega))) | (with_reducible refine Below.alloc ?_ ?_ _; rotate_left; exact (by first | omega | (simp; done) | (simp; omega))) | with_reducible refine Below.drew ?_ | with_reducible refine Below_drewN ?_ _))).mono ?_
        rintro e w2 ⟨rfl, hb⟩
        have hs2 := hb.size
        simp only [World.size_alloc] at hs2
        have p0b : w2.cell? ⟨w.heap.size + 1, 0, none⟩ = some (.int .i64 s1) := by rw [hb.cell (p := ⟨w.heap.size + 1, 0, none⟩) (by first | omega | ((try simp only [World.size_alloc, World.size_setCell, size_drew, size_drewN]); omega) | (simp; done) | (simp; omega))]; go_simp
        have p1b : w2.cell? ⟨w.heap.size + 1, 1, none⟩ = some (.int .i64 s2) := by rw [hb.cell (p := ⟨w.heap.size + 1, 1, none⟩) (by first | omega | ((try simp only [World.size_alloc, World.size_setCell, size_drew, size_drewN]); omega) | (simp; done) | (simp; omega))]; go_simp
        have g0b : w2.frozen? ⟨w.heap.size + 1, 0, none⟩ = false := by rw [hb.frozen (p := ⟨w.heap.size + 1, 0, none⟩) (by first | omega | ((try simp only [World.size_alloc, World.size_setCell, size_drew, size_drewN]); omega) | (simp; done) | (simp; omega))]; go_simp
        have g1b : w2.frozen? ⟨w.heap.size + 1, 1, none⟩ = false := by rw [hb.frozen (p := ⟨w.heap.size + 1, 1, none⟩) (by first | omega | ((try simp only [World.size_alloc, World.size_setCell, size_drew, size_drewN]); omega) | (simp; done) | (simp; omega))]; go_simp
        have r0b : w2.cell? ⟨w.heap.size, 0, none⟩ = some (.int .i64 0) := by rw [hb.cell (p := ⟨w.heap.size, 0, none⟩) (by first | omega | ((try simp only [World.size_alloc, World.size_setCell, size_drew, size_drewN]); omega) | (simp; done) | (simp; omega))]; go_simp
        have r1b : w2.cell? ⟨w.heap.size, 1, none⟩ = some (.int .i64 0) := by rw [hb.cell (p := ⟨w.heap.size, 1, none⟩) (by first | omega | ((try simp only [World.size_alloc, World.size_setCell, size_drew, size_drewN]); omega) | (simp; done) | (simp; omega))]; go_simp
        have h0b : w2.frozen? ⟨w.heap.size, 0, none⟩ = false := by rw [hb.frozen (p := ⟨w.heap.size, 0, none⟩) (by first | omega | ((try simp only [World.size_alloc, World.size_setCell, size_drew, size_drewN]); omega) | (simp; done) | (simp; omega))]; go_simp
        have h1b : w2.frozen? ⟨w.heap.size, 1, none⟩ = false := by rw [hb.frozen (p := ⟨w.heap.size, 1, none⟩) (by first | omega | ((try simp only [World.size_alloc, World.size_setCell, size_drew, size_drewN]); omega) | (simp; done) | (simp; omega))]; go_simp
        have hB2 : Below w.heap.size w w2 := Below.trans (by (repeat first | with_reducible exact Below.refl _ _ | with_reducible assumption | (with_reducible refine Below.setCell ?_ ?_ _; rotate_left; exact (by first | omega | (simp; done) | (simp; omega))) | (with_reducible refine Below.alloc ?_ ?_ _; rotate_left; exact (by first | omega | (simp; done) | (simp; omega))) | with_reducible refine Below.drew ?_ | with_reducible refine Below_drewN ?_ _)) (hb.mono (by first | omega | ((try simp only [World.size_alloc, World.size_setCell, size_drew, size_drewN]); omega) | (simp; done) | (simp; omega)))
        have y0 : w2.cell? ⟨w1.heap.size + 1, 0, none⟩ = some (.bool nc) := by rw [hb.cell (p := ⟨w1.heap.size + 1, 0, none⟩) (by first | omega | ((try simp only [World.size_alloc, World.size_setCell, size_drew, size_drewN]); omega) | (simp; done) | (simp; omega))]; go_simp
        have y1 : w2.cell? ⟨w1.heap.size + 1, 1, none⟩ = some (.slice A2 n2 c2) := by rw [hb.cell (p := ⟨w1.heap.size + 1, 1, none⟩) (by first | omega | ((try simp only [World.size_alloc, World.size_setCell, size_drew, size_drewN]); omega) | (simp; done) | (simp; omega))]; go_simp
        have hD2 : Below w1.heap.size w1 w2 := Below.trans (by (repeat first | with_reducible exact Below.refl _ _ | with_reducible assumption | (with_reducible refine Below.setCell ?_ ?_ _; rotate_left; exact (by first | omega | (simp; done) | (simp; omega))) | (with_reducible refine Below.alloc ?_ ?_ _; rotate_left; exact (by first | omega | (simp; done) | (simp; omega))) | with_reducible refine Below.drew ?_ | with_reducible refine Below_drewN ?_ _)) (hb.mono (by first | omega | ((try simp only [World.size_alloc, World.size_setCell, size_drew, size_drewN]); omega) | (simp; done) | (simp; omega)))
        have V2 := Lib.hid (HV1.out.below hD2)
        have hq2 : w.heap.size + 1 < w2.heap.size := by omega
        have hq20 : w.heap.size < w2.heap.size := by omega
        clear hb p0a p1a g0a g1a r0a r1a h0a h1a HV1 HN1 hD2
        by_cases k1 : s1 < ya
        · have K1 : Hid ((if (s1, s2).1 < ya then ya else (s1, s2).1) = ya) := Lib.hid (if_pos k1)
          go_wp2_with fail
          refine (HN2.out _ _ (V2.out.setCell (p := ⟨w.heap.size + 1, 0, none⟩) hwr _).big).mono ?_
          rintro e w3 ⟨rfl, hb⟩
          have hs3 := hb.size
          (try simp only [World.size_setCell] at hs3)
          have p0c : w3.cell? ⟨w.heap.size + 1, 0, none⟩ = some (.int .i64 ya) := by rw [hb.cell (p := ⟨w.heap.size + 1, 0, none⟩) (by first | omega | ((try simp only [World.size_alloc, World.size_setCell, size_drew, size_drewN]); omega) | (simp; done) | (simp; omega))]; go_simp
          have p1c : w3.cell? ⟨w.heap.size + 1, 1, none⟩ = some (.int .i64 s2) := by rw [hb.cell (p := ⟨w.heap.size + 1, 1, none⟩) (by first | omega | ((try simp only [World.size_alloc, World.size_setCell, size_drew, size_drewN]); omega) | (simp; done) | (simp; omega))]; go_simp
          have g0c : w3.frozen? ⟨w.heap.size + 1, 0, none⟩ = false := by rw [hb.frozen (p := ⟨w.heap.size + 1, 0, none⟩) (by first | omega | ((try simp only [World.size_alloc, World.size_setCell, size_drew, size_drewN]); omega) | (simp; done) | (simp; omega))]; go_simp
          have g1c : w3.frozen? ⟨w.heap.size + 1, 1, none⟩ = false := by rw [hb.frozen (p := ⟨w.heap.size + 1, 1, none⟩) (by first | omega | ((try simp only [World.size_alloc, World.size_setCell, size_drew, size_drewN]); omega) | (simp; done) | (simp; omega))]; go_simp
          have r0c : w3.cell? ⟨w.heap.size, 0, none⟩ = some (.int .i64 0) := by rw [hb.cell (p := ⟨w.heap.size, 0, none⟩) (by first | omega | ((try simp only [World.size_alloc, World.size_setCell, size_drew, size_drewN]); omega) | (simp; done) | (simp; omega))]; go_simp
          have r1c : w3.cell? ⟨w.heap.size, 1, none⟩ = some (.int .i64 0) := by rw [hb.cell (p := ⟨w.heap.size, 1, none⟩) (by first | omega | ((try simp only [World.size_alloc, World.size_setCell, size_drew, size_drewN]); omega) | (simp; done) | (simp; omega))]; go_simp
          have h0c : w3.frozen? ⟨w.heap.size, 0, none⟩ = false := by rw [hb.frozen (p := ⟨w.heap.size, 0, none⟩) (by first | omega | ((try simp only [World.size_alloc, World.size_setCell, size_drew, size_drewN]); omega) | (simp; done) | (simp; omega))]; go_simp
          have h1c : w3.frozen? ⟨w.heap.size, 1, none⟩ = false := by rw [hb.frozen (p := ⟨w.heap.size, 1, none⟩) (by first | omega | ((try simp only [World.size_alloc, World.size_setCell, size_drew, size_drewN]); omega) | (simp; done) | (simp; omega))]; go_simp
          have hB3 : Below w.heap.size w w3 := Below.trans (by (repeat first | with_reducible exact Below.refl _ _ | with_reducible assumption | (with_reducible refine Below.setCell ?_ ?_ _; rotate_left; exact (by first | omega | (simp; done) | (simp; omega))) | (with_reducible refine Below.alloc ?_ ?_ _; rotate_left; exact (by first | omega | (simp; done) | (simp; omega))) | with_reducible refine Below.drew ?_ | with_reducible refine Below_drewN ?_ _)) (hb.mono (by first | omega | ((try simp only [World.size_alloc, World.size_setCell, size_drew, size_drewN]); omega) | (simp; done) | (simp; omega)))
          have hq3 : w.heap.size + 1 < w3.heap.size := by omega
          have hq30 : w.heap.size < w3.heap.size := by omega
          clear hb p0b p1b g0b g1b r0b r1b h0b h1b y0 y1 V2 HN2 hB2 hB1
          by_cases k2 : yc < s2
          · have HN : Hid (metGo (ya, yc) (zs.drop (j + 1)) = G) := Lib.hid (by rw [HS.out, K1.out, if_pos k2])
            clear HS K1
            go_wp2_with fail
            go_roundw
            case rel => exact ⟨j + 1, ya, yc, by omega, by go_num, by omega, by omega, by omega, by omega, HN, by go_simp, by go_simp, by go_simp, by go_simp, by go_simp, by go_simp, by go_simp, by go_simp, (by first | omega | ((try simp only [World.size_alloc, World.size_setCell, size_drew, size_drewN]); omega) | (simp; done) | (simp; omega)), by (repeat first | with_reducible exact Below.refl _ _ | with_reducible assumption | (with_reducible refine Below.setCell ?_ ?_ _; rotate_left; exact (by first | omega | (simp; done) | (simp; omega))) | (with_reducible refine Below.alloc ?_ ?_ _; rotate_left; exact (by first | omega | (simp; done) | (simp; omega))) | with_reducible refine Below.drew ?_ | with_reducible refine Below_drewN ?_ _)⟩
            case measure => simp [intOf]; omega
          · have HN : Hid (metGo (ya, s2) (zs.drop (j + 1)) = G) := Lib.hid (by rw [HS.out, K1.out, if_neg k2])
            clear HS K1
            go_wp2_with fail
            go_roundw
            case rel => exact ⟨j + 1, ya, s2, by omega, by go_num, by omega, by omega, by omega, by omega, HN, by go_simp, by go_simp, by go_simp, by go_simp, by go_simp, by go_simp, by go_simp, by go_simp, (by first | omega | ((try simp only [World.size_alloc, World.size_setCell, size_drew, size_drewN]); omega) | (simp; done) | (simp; omega)), by (repeat first | with_reducible exact Below.refl _ _ | with_reducible assumption | (with_reducible refine Below.setCell ?_ ?_ _; rotate_left; exact (by first | omega | (simp; done) | (simp; omega))) | (with_reducible refine Below.alloc ?_ ?_ _; rotate_left; exact (by first | omega | (simp; done) | (simp; omega))) | with_reducible refine Below.drew ?_ | with_reducible refine Below_drewN ?_ _)⟩
            case measure => simp [intOf]; omega
        · have K1 : Hid ((if (s1, s2).1 < ya then ya else (s1, s2).1) = s1) := Lib.hid (if_neg k1)
          go_wp2_with fail
          refine (HN2.out _ _ V2.out.big).mono ?_
          rintro e w3 ⟨rfl, hb⟩
          have hs3 := hb.size
          (try simp only [World.size_setCell] at hs3)
          have p0c : w3.cell? ⟨w.heap.size + 1, 0, none⟩ = some (.int .i64 s1) := by rw [hb.cell (p := ⟨w.heap.size + 1, 0, none⟩) (by first | omega | ((try simp only [World.size_alloc, World.size_setCell, size_drew, size_drewN]); omega) | (simp; done) | (simp; omega))]; go_simp
          have p1c : w3.cell? ⟨w.heap.size + 1, 1, none⟩ = some (.int .i64 s2) := by rw [hb.cell (p := ⟨w.heap.size + 1, 1, none⟩) (by first | omega | ((try simp only [World.size_alloc, World.size_setCell, size_drew, size_drewN]); omega) | (simp; done) | (simp; omega))]; go_simp
          have g0c : w3.frozen? ⟨w.heap.size + 1, 0, none⟩ = false := by rw [hb.frozen (p := ⟨w.heap.size + 1, 0, none⟩) (by first | omega | ((try simp only [World.size_alloc, World.size_setCell, size_drew, size_drewN]); omega) | (simp; done) | (simp; omega))]; go_simp
          have g1c : w3.frozen? ⟨w.heap.size + 1, 1, none⟩ = false := by rw [hb.frozen (p := ⟨w.heap.size + 1, 1, none⟩) (by first | omega | ((try simp only [World.size_alloc, World.size_setCell, size_drew, size_drewN]); omega) | (simp; done) | (simp; omega))]; go_simp
          have r0c : w3.cell? ⟨w.heap.size, 0, none⟩ = some (.int .i64 0) := by rw [hb.cell (p := ⟨w.heap.size, 0, none⟩) (by first | omega | ((try simp only [World.size_alloc, World.size_setCell, size_drew, size_drewN]); omega) | (simp; done) | (simp; omega))]; go_simp
          have r1c : w3.cell? ⟨w.heap.size, 1, none⟩ = some (.int .i64 0) := by rw [hb.cell (p := ⟨w.heap.size, 1, none⟩) (by first | omega | ((try simp only [World.size_alloc, World.size_setCell, size_drew, size_drewN]); omega) | (simp; done) | (simp; omega))]; go_simp
          have h0c : w3.frozen? ⟨w.heap.size, 0, none⟩ = false := by rw [hb.frozen (p := ⟨w.heap.size, 0, none⟩) (by first | omega | ((try simp only [World.size_alloc, World.size_setCell, size_drew, size_drewN]); omega) | (simp; done) | (simp; omega))]; go_simp
          have h1c : w3.frozen? ⟨w.heap.size, 1, none⟩ = false := by rw [hb.frozen (p := ⟨w.heap.size, 1, none⟩) (by first | omega | ((try simp only [World.size_alloc, World.size_setCell, size_drew, size_drewN]); omega) | (simp; done) | (simp; omega))]; go_simp
          have hB3 : Below w.heap.size w w3 := Below.trans (by (repeat first | with_reducible exact Below.refl _ _ | with_reducible assumption | (with_reducible refine Below.setCell ?_ ?_ _; rotate_left; exact (by first | omega | (simp; done) | (simp; omega))) | (with_reducible refine Below.alloc ?_ ?_ _; rotate_left; exact (by first | omega | (simp; done) | (simp; omega))) | with_reducible refine Below.drew ?_ | with_reducible refine Below_drewN ?_ _)) (hb.mono (by first | omega | ((try simp only [World.size_alloc, World.size_setCell, size_drew, size_drewN]); omega) | (simp; done) | (simp; omega)))
          have hq3 : w.heap.size + 1 < w3.heap.size := by omega
          have hq30 : w.heap.size < w3.heap.size := by omega
          clear hb p0b p1b g0b g1b r0b r1b h0b h1b y0 y1 V2 HN2 hB2 hB1
          by_cases k2 : yc < s2
          · have HN : Hid (metGo (s1, yc) (zs.drop (j + 1)) = G) := Lib.hid (by rw [HS.out, K1.out, if_pos k2])
            clear HS K1
            go_wp2_with fail
            go_roundw
            case rel => exact ⟨j + 1, s1, yc, by omega, by go_num, by omega, by omega, by omega, by omega, HN, by go_simp, by go_simp, by go_simp, by go_simp, by go_simp, by go_simp, by go_simp, by go_simp, (by first | omega | ((try simp only [World.size_alloc, World.size_setCell, size_drew, size_drewN]); omega) | (simp; done) | (simp; omega)), by (repeat first | with_reducible exact Below.refl _ _ | with_reducible assumption | (with_reducible refine Below.setCell ?_ ?_ _; rotate_left; exact (by first | omega | (simp; done) | (simp; omega))) | (with_reducible refine Below.alloc ?_ ?_ _; rotate_left; exact (by first | omega | (simp; done) | (simp; omega))) | with_reducible refine Below.drew ?_ | with_reducible refine Below_drewN ?_ _)⟩
            case measure => simp [intOf]; omega
          · have HN : Hid (metGo (s1, s2) (zs.drop (j + 1)) = G) := Lib.hid (by rw [HS.out, K1.out, if_neg k2])
            clear HS K1
            go_wp2_with fail
            go_roundw
            case rel => exact ⟨j + 1, s1, s2, by omega, by go_num, by omega, by omega, by omega, by omega, HN, by go_simp, by go_simp, by go_simp, by go_simp, by go_simp, by go_simp, by go_simp, by go_simp, (by first | omega | ((try simp only [World.size_alloc, World.size_setCell, size_drew, size_drewN]); omega) | (simp; done) | (simp; omega)), by (repeat first | with_reducible exact Below.refl _ _ | with_reducible assumption | (with_reducible refine Below.setCell ?_ ?_ _; rotate_left; exact (by first | omega | (simp; done) | (simp; omega))) | (with_reducible refine Below.alloc ?_ ?_ _; rotate_left; exact (by first | omega | (simp; done) | (simp; omega))) | with_reducible refine Below.drew ?_ | with_reducible refine Below_drewN ?_ _)⟩
            case measure => simp [intOf]; omega
    · have HN : Hid (((s1, s2), decide (s1 ≤ s2)) = G) := Lib.hid (by rw [← hG.out, List.drop_of_length_le (by rw [HI.out.1]; omega)]; rfl)
      clear hG
      have hd : ∃ d, decide (s1 ≤ s2) = d := ⟨_, rfl⟩
      obtain ⟨d, hd⟩ := hd
      rw [hd] at HN
      go_wp2_with fail
      have HS : Hid (∀ w' : World, Reg (w.heap.size) (wr) w' → (Reg (w.heap.size) (wr) w' ∧ w'.cell? ⟨w.heap.size + 1, 0, none⟩ = some (.int .i64 s1) ∧ w'.cell? ⟨w.heap.size + 1, 1, none⟩ = some (.int .i64 s2) ∧ w'.cell? ⟨w.heap.size, 0, none⟩ = some (cur w' ⟨w.heap.size, 0, none⟩) ∧ w'.frozen? ⟨w.heap.size, 0, none⟩ = false ∧ w'.cell? ⟨w.heap.size, 1, none⟩ = some (cur w' ⟨w.heap.size, 1, none⟩) ∧ w'.frozen? ⟨w.heap.size, 1, none⟩ = false)) := (fun w' h => by (have hc := h.cells; have hs := h.some; have hf := h.frozen; refine ⟨h, ?_⟩; (try simp only [World.size_alloc, World.size_setCell, size_drew, size_drewN] at hc hs hf); first | (simp (disch := omega) only [hc, hs, hf, cur_iff]; (try go_simp); done) | (simp (disch := first | omega | (simp; done)) only [hc, hs, hf, cur_iff]; (try go_simp); done) | (simp (maxDischargeDepth := 4) [hc, hs, hf, cur_iff, go_sem]; done) | (go_simp; done) | (simp (maxDischargeDepth := 4) [hc, hs, hf, cur_iff, go_sem]; go_simp))); go_region_held3 (fun w' => Reg (w.heap.size) (wr) w' ∧ w'.cell? ⟨w.heap.size + 1, 0, none⟩ = some (.int .i64 s1) ∧ w'.cell? ⟨w.heap.size + 1, 1, none⟩ = some (.int .i64 s2) ∧ w'.cell? ⟨w.heap.size, 0, none⟩ = some (cur w' ⟨w.heap.size, 0, none⟩) ∧ w'.frozen? ⟨w.heap.size, 0, none⟩ = false ∧ w'.cell? ⟨w.heap.size, 1, none⟩ = some (cur w' ⟨w.heap.size, 1, none⟩) ∧ w'.frozen? ⟨w.heap.size, 1, none⟩ = false) (exact HS.out _ (by (repeat first | with_reducible exact Reg.refl _ _ | with_reducible exact Reg.drewN2 _ _ _ _ | with_reducible exact (‹Reg _ _ _ ∧ _›).1 | (with_reducible refine Reg.setCell ?_ ?_ _; rotate_left; exact (by first | omega | ((try simp only [World.size_alloc, World.size_setCell, size_drew, size_drewN]); omega) | (simp; done) | (simp; omega))) | with_reducible refine Reg.alloc ?_ _ | with_reducible refine Reg.drew ?_ | with_reducible refine Reg.drewN ?_ _ | (with_reducible apply Reg.call; rotate_left; with_reducible assumption)))) (first | fail)
      all_goals go_wp2_with fail
      all_goals first | exact bodyPost_ret (res3kk Tryd.results55 _ wr w.heap.size (.int .i64 s1) (.int .i64 s2) (.bool d) rfl rfl (by rw [r0]; rfl) (by rw [r1]; rfl)) rfl ⟨by rw [← HN.out], by (repeat first | with_reducible exact Below.refl _ _ | with_reducible assumption | (with_reducible refine Below.setCell ?_ ?_ _; rotate_left; exact (by first | omega | (simp; done) | (simp; omega))) | (with_reducible refine Below.alloc ?_ ?_ _; rotate_left; exact (by first | omega | (simp; done) | (simp; omega))) | with_reducible refine Below.drew ?_ | with_reducible refine Below_drewN ?_ _)⟩ | exact bodyPost_ret (res3hh Tryd.results55 _ wr w.heap.size (.int .i64 s1) (.int .i64 s2) (.bool d) rfl rfl (by rw [r0]; rfl) (by rw [r1]; rfl)) rfl ⟨by rw [← HN.out], by (repeat first | with_reducible exact Below.refl _ _ | with_reducible assumption | (with_reducible refine Below.setCell ?_ ?_ _; rotate_left; exact (by first | omega | (simp; done) | (simp; omega))) | (with_reducible refine Below.alloc ?_ ?_ _; rotate_left; exact (by first | omega | (simp; done) | (simp; omega))) | with_reducible refine Below.drew ?_ | with_reducible refine Below_drewN ?_ _)⟩

end Go.Proofs.YtjikhpdchockcaaDoor
end
section
/- The specification of gains: the contracts of Calibrate and Broken, over this seat's translation (written by mk_gaf.py). -/
namespace Go.Proofs.YtjikhpdchockcaaDoor
set_option linter.unusedVariables false
set_option linter.unusedSimpArgs false
open Go.RowKit Go.Shelf

theorem allOk_drop {l : List Tri} {k : Nat} {x : Tri} (h : l[k]? = some x) : allOk (l.drop k) = (okP x && allOk (l.drop (k + 1))) := by
  obtain ⟨hk, rfl⟩ := List.getElem?_eq_some_iff.1 h
  rw [List.drop_eq_getElem_cons hk]; rfl

set_option maxRecDepth 100000 in
set_option maxHeartbeats 8000000 in
theorem rcalibrate_any (A : Option Addr) (len cap : Nat) (zs : List Tri) (w : World) (hI : IsT 3 pairCells w A len zs) (hl : len ≤ 1000000000000000) :
    Calls Tryd.prog 23 #[.slice A len cap] w (Ret (.tuple #[.agg #[.int .i64 (calL zs).1, .int .i64 (calL zs).2.1], .int .i64 (calL zs).2.2]) w) := by
  have HI := Lib.hid hI
  have HM := Lib.hid (fun (h : allOk zs = true) W (hb : Below w.heap.size w W) => rmet_any A len cap zs W (hI.below hb) hl h)
  have HC := Lib.hid (calL_met zs)
  generalize calL zs = G at *
  generalize metL zs = M at *
  have HA : Hid (allOk (zs.drop 0) = allOk zs) := Lib.hid rfl
  generalize allOk zs = B at *
  clear hI
  go_enter Tryd.func23, Tryd.ntmps23
  go_wp2_with fail
  go_loopw [4] (fun i wr => ∃ j : Nat, j ≤ len ∧ i = .int .i64 j ∧ Hid (allOk (zs.drop j) = B) ∧ wr.cell? ⟨w.heap.size, 0, none⟩ = some (.int .i64 0) ∧ wr.cell? ⟨w.heap.size, 1, none⟩ = some (.int .i64 0) ∧ wr.frozen? ⟨w.heap.size, 0, none⟩ = false ∧ wr.frozen? ⟨w.heap.size, 1, none⟩ = false ∧ w.heap.size < wr.heap.size ∧ Below w.heap.size w wr) (fun i _ => len - (intOf i).toNat)
  case atStart => exact ⟨0, Nat.zero_le _, rfl, HA, by go_simp, by go_simp, by go_simp, by go_simp, by simp, by (repeat first | with_reducible exact Below.refl _ _ | with_reducible assumption | (with_reducible refine Below.setCell ?_ ?_ _; rotate_left; exact (by first | omega | (simp; done) | (simp; omega))) | (with_reducible refine Below.alloc ?_ ?_ _; rotate_left; exact (by first | omega | (simp; done) | (simp; omega))) | with_reducible refine Below.drew ?_ | with_reducible refine Below_drewN ?_ _)⟩
  case round =>
    obtain ⟨j, hj, rfl, hA, r0, r1, h0, h1, hq, hB⟩ := hrel
    by_cases hlt : j < len
    · obtain ⟨hzl, hcl⟩ := HI.out.below hB
      obtain ⟨b, o, rfl, hb0, hcl⟩ := hcl (by omega)
      obtain ⟨x, hx⟩ : ∃ x, zs[j]? = some x := ⟨_, List.getElem?_eq_getElem (by omega)⟩
      have x0 : wr.cell? ⟨b, o + j * 3, none⟩ = some (.int .i64 x.1) := by have h := hcl j x hx 0 _ rfl; simpa using h
      have x1 : wr.cell? ⟨b, o + j * 3 + 1, none⟩ = some (.int .i64 x.2.1) := by have h := hcl j x hx 1 _ rfl; simpa using h
      have x2 : wr.cell? ⟨b, o + j * 3 + 2, none⟩ = some (.int .i64 x.2.2) := by have h := hcl j x hx 2 _ rfl; simpa using h
      have HS := Lib.hid (hA.out.symm.trans (allOk_drop hx))
      clear hcl hx hzl hA
      have jc : (0 : Int) ≤ j := by omega
      have jn : ((j : Int)).toNat = j := by omega
      have hsz := hB.size
      obtain ⟨v, lo, hi⟩ := x
      dsimp only at x0 x1 x2
      have HV := Lib.hid (fun W => rvalidPair_any v lo hi W)
      have HV := Lib.hid (show ∀ W, Calls Tryd.prog 49 #[.agg #[.int .i64 v, .int .i64 lo, .int .i64 hi]] W (Ret (.bool (okP (v, lo, hi))) W) from HV.out)
      cases hk : okP (v, lo, hi)
      · have HF : Hid (G = (0, 0, 1)) := Lib.hid (by rw [HC.out, HS.out, hk]; rfl)
        rw [hk] at HV
        clear hk HS HM HC
        go_wp2_with fail
        refine (HV.out _).mono ?_
        rintro e w1 ⟨rfl, hb⟩
        have a0 := (hb.cell (p := ⟨w.heap.size, 0, none⟩) hq).trans r0
        have a1 := (hb.cell (p := ⟨w.heap.size, 1, none⟩) hq).trans r1
        have a2 := (hb.frozen (p := ⟨w.heap.size, 0, none⟩) hq).trans h0
        have a3 := (hb.frozen (p := ⟨w.heap.size, 1, none⟩) hq).trans h1
        have hB1 := hB.trans (hb.mono hB.size)
        clear hb r0 r1 h0 h1 x0 x1 x2
        go_wp2_with fail
        rw [HF.out]
        exact bodyPost_ret (res3p Tryd.results23 _ _ _ _ _ _ rfl rfl (by go_simp) (by go_simp)) rfl ⟨rfl, by (repeat first | with_reducible exact Below.refl _ _ | with_reducible assumption | (with_reducible refine Below.setCell ?_ ?_ _; rotate_left; exact (by first | omega | (simp; done) | (simp; omega))) | (with_reducible refine Below.alloc ?_ ?_ _; rotate_left; exact (by first | omega | (simp; done) | (simp; omega))) | with_reducible refine Below.drew ?_ | with_reducible refine Below_drewN ?_ _)⟩
      · have HN : Hid (allOk (zs.drop (j + 1)) = B) := Lib.hid (by rw [HS.out, hk]; rfl)
        rw [hk] at HV
        clear hk HS
        go_wp2_with fail
        refine (HV.out _).mono ?_
        rintro e w1 ⟨rfl, hb⟩
        have a0 := (hb.cell (p := ⟨w.heap.size, 0, none⟩) hq).trans r0
        have a1 := (hb.cell (p := ⟨w.heap.size, 1, none⟩) hq).trans r1
        have a2 := (hb.frozen (p := ⟨w.heap.size, 0, none⟩) hq).trans h0
        have a3 := (hb.frozen (p := ⟨w.heap.size, 1, none⟩) hq).trans h1
        have hB1 := hB.trans (hb.mono hB.size)
        have hq1 := Nat.lt_of_lt_of_le hq hb.size
        clear hb r0 r1 h0 h1 x0 x1 x2
        go_wp2_with fail
        go_roundw
        case rel => exact ⟨j + 1, by omega, by go_num, HN, a0, a1, a2, a3, hq1, hB1⟩
        case measure => simp [intOf]; omega
    · have HT : B = true := by rw [← hA.out, List.drop_of_length_le (by rw [HI.out.1]; omega)]; rfl
      have HM := Lib.hid (fun W (hb : Below w.heap.size w W) => HM.out HT W hb)
      have HC := Lib.hid (HC.out.trans (if_pos HT))
      clear hA HT
      obtain ⟨⟨m1, m2⟩, ok⟩ := M
      dsimp only at HM HC
      cases ok
      · have HF : Hid (G = (0, 0, 8)) := Lib.hid (by rw [HC.out]; rfl)
        clear HC
        go_wp2_with fail
        refine (HM.out _ (by (repeat first | with_reducible exact Below.refl _ _ | with_reducible assumption | (with_reducible refine Below.setCell ?_ ?_ _; rotate_left; exact (by first | omega | (simp; done) | (simp; omega))) | (with_reducible refine Below.alloc ?_ ?_ _; rotate_left; exact (by first | omega | (simp; done) | (simp; omega))) | with_reducible refine Below.drew ?_ | with_reducible refine Below_drewN ?_ _))).mono ?_
        rintro e w1 ⟨rfl, hb⟩
        have a0 := (hb.cell (p := ⟨w.heap.size, 0, none⟩) hq).trans r0
        have a1 := (hb.cell (p := ⟨w.heap.size, 1, none⟩) hq).trans r1
        have a2 := (hb.frozen (p := ⟨w.heap.size, 0, none⟩) hq).trans h0
        have a3 := (hb.frozen (p := ⟨w.heap.size, 1, none⟩) hq).trans h1
        have hB1 := hB.trans (hb.mono hB.size)
        have hq1 := Nat.lt_of_lt_of_le hq hb.size
        clear hb r0 r1 h0 h1
        go_wp2_with fail
        rw [HF.out]
        exact bodyPost_ret (res3p Tryd.results23 _ _ _ _ _ _ rfl rfl (by go_simp) (by go_simp)) rfl ⟨rfl, by (repeat first | with_reducible exact Below.refl _ _ | with_reducible assumption | (with_reducible refine Below.setCell ?_ ?_ _; rotate_left; exact (by first | omega | (simp; done) | (simp; omega))) | (with_reducible refine Below.alloc ?_ ?_ _; rotate_left; exact (by first | omega | (simp; done) | (simp; omega))) | with_reducible refine Below.drew ?_ | with_reducible refine Below_drewN ?_ _)⟩
      · have HF : Hid (G = (m1, m2, 0)) := Lib.hid (by rw [HC.out]; rfl)
        clear HC
        go_wp2_with fail
        refine (HM.out _ (by (repeat first | with_reducible exact Below.refl _ _ | with_reducible assumption | (with_reducible refine Below.setCell ?_ ?_ _; rotate_left; exact (by first | omega | (simp; done) | (simp; omega))) | (with_reducible refine Below.alloc ?_ ?_ _; rotate_left; exact (by first | omega | (simp; done) | (simp; omega))) | with_reducible refine Below.drew ?_ | with_reducible refine Below_drewN ?_ _))).mono ?_
        rintro e w1 ⟨rfl, hb⟩
        have a0 := (hb.cell (p := ⟨w.heap.size, 0, none⟩) hq).trans r0
        have a1 := (hb.cell (p := ⟨w.heap.size, 1, none⟩) hq).trans r1
        have a2 := (hb.frozen (p := ⟨w.heap.size, 0, none⟩) hq).trans h0
        have a3 := (hb.frozen (p := ⟨w.heap.size, 1, none⟩) hq).trans h1
        have hB1 := hB.trans (hb.mono hB.size)
        have hq1 := Nat.lt_of_lt_of_le hq hb.size
        clear hb r0 r1 h0 h1
        go_wp2_with fail
        rw [HF.out]
        exact bodyPost_ret (res3p Tryd.results23 _ _ _ _ _ _ rfl rfl (by go_simp) (by go_simp)) rfl ⟨rfl, by (repeat first | with_reducible exact Below.refl _ _ | with_reducible assumption | (with_reducible refine Below.setCell ?_ ?_ _; rotate_left; exact (by first | omega | (simp; done) | (simp; omega))) | (with_reducible refine Below.alloc ?_ ?_ _; rotate_left; exact (by first | omega | (simp; done) | (simp; omega))) | with_reducible refine Below.drew ?_ | with_reducible refine Below_drewN ?_ _)⟩

theorem IsT.take' {α : Type} {n : Nat} {enc : α → List Value} {w : World} {A : Option Addr} {len : Nat} {zs : List α} (h : IsT n enc w A len zs) {k : Nat} (hk : k < len) : IsT n enc w A (k + 1) (zs.take (k + 1)) := h.take (by omega)

set_option maxRecDepth 100000 in
set_option maxHeartbeats 8000000 in
theorem rbroken_any (A : Option Addr) (len cap : Nat) (zs : List Tri) (w : World) (hI : IsT 3 pairCells w A len zs) (hl : len ≤ 1000000000000000) (hcap : len ≤ cap) (hmax : cap ≤ 9223372036854775807) :
    Calls Tryd.prog 25 #[.slice A len cap] w (Ret (.int .i64 (brokL zs)) w) := by
  have HC := Lib.hid (fun W (hb : Below w.heap.size w W) => rcalibrate_any A len cap zs W (hI.below hb) hl)
  by_cases hk : allOk zs = true ∧ (calL zs).2.2 ≠ 0
  · obtain ⟨hok, hne⟩ := hk
    have e8 : (calL zs) = (0, 0, 8) := by
      unfold calL at hne ⊢
      rw [if_pos hok] at hne ⊢
      split
      · rename_i h; rw [if_pos h] at hne; exact absurd rfl hne
      · rfl
    rw [e8] at HC
    have HI := Lib.hid hI
    have HO := Lib.hid hok
    have HG : Hid (first (left all0 (zs.take 0)) (zs.drop 0) 0 = brokL zs) := Lib.hid (by unfold brokL; rw [if_pos hok]; rfl)
    generalize brokL zs = G at *
    clear hI hok hne e8
    go_enter Tryd.func25, Tryd.ntmps25
    go_wp2_with (go_at_call 23; refine (HC.out _ (by (repeat first | with_reducible exact Below.refl _ _ | with_reducible assumption | (with_reducible refine Below.setCell ?_ ?_ _; rotate_left; exact (by first | omega | (simp; done) | (simp; omega))) | (with_reducible refine Below.alloc ?_ ?_ _; rotate_left; exact (by first | omega | (simp; done) | (simp; omega))) | with_reducible refine Below.drew ?_ | with_reducible refine Below_drewN ?_ _))).mono ?_; rintro e w1 ⟨rfl, hb⟩; have hB1 : Below w.heap.size w w1 := hb; have hs1 := hB1.size)
    go_loopw [5, 6, 7] (fun i _ _ wr => ∃ j : Nat, j ≤ len ∧ i = .int .i64 j ∧ Hid (first (left all0 (zs.take j)) (zs.drop j) j = G) ∧ Below w.heap.size w wr) (fun i _ _ _ => len - (intOf i).toNat)
    case atStart => exact ⟨0, Nat.zero_le _, rfl, HG, by (repeat first | with_reducible exact Below.refl _ _ | with_reducible assumption | (with_reducible refine Below.setCell ?_ ?_ _; rotate_left; exact (by first | omega | (simp; done) | (simp; omega))) | (with_reducible refine Below.alloc ?_ ?_ _; rotate_left; exact (by first | omega | (simp; done) | (simp; omega))) | with_reducible refine Below.drew ?_ | with_reducible refine Below_drewN ?_ _)⟩
    case round =>
      obtain ⟨j, hj, rfl, hG, hB⟩ := hrel
      by_cases hlt : j < len
      · have hjl : j < zs.length := by rw [HI.out.1]; exact hlt
        have HS := Lib.hid (hG.out.symm.trans (first_met HO.out hjl (j : Int)))
        have HM := Lib.hid (fun W (hb : Below w.heap.size w W) => rmet_any A (j + 1) cap (zs.take (j + 1)) W ((HI.out.below hb).take' hlt) (by omega) (allOk_take HO.out (j + 1)))
        obtain ⟨_, hcl⟩ := HI.out
        obtain ⟨b, o, rfl, _, _⟩ := hcl (by omega)
        clear hcl hG hjl
        generalize metL (zs.take (j + 1)) = M at *
        obtain ⟨⟨m1, m2⟩, ok⟩ := M
        dsimp only at HM HS
        have jc : (0 : Int) ≤ j := by omega
        have jn : ((j : Int)).toNat = j := by omega
        have j1 : (0 : Int) ≤ (j : Int) + 1 := by omega
        have j2 : ((j : Int) + 1).toNat = j + 1 := by omega
        have j3 : (j : Int) + 1 ≤ cap := by omega
        have j4 : j + 1 ≤ cap := by omega
        have hsz := hB.size
        cases ok
        · have HN : Hid ((j : Int) = G) := Lib.hid (by rw [HS.out]; rfl)
          clear HS
          go_wp2_with (go_at_call 55; refine (HM.out _ (by (repeat first | with_reducible exact Below.refl _ _ | with_reducible assumption | (with_reducible refine Below.setCell ?_ ?_ _; rotate_left; exact (by first | omega | (simp; done) | (simp; omega))) | (with_reducible refine Below.alloc ?_ ?_ _; rotate_left; exact (by first | omega | (simp; done) | (simp; omega))) | with_reducible refine Below.drew ?_ | with_reducible refine Below_drewN ?_ _))).mono ?_; rintro e w2 ⟨rfl, hb⟩; have hB2 := hB.trans (hb.mono hB.size); have hs2 := hB2.size)
          go_ret
          exact ⟨by rw [← HN.out]; rfl, by (repeat first | with_reducible exact Below.refl _ _ | with_reducible assumption | (with_reducible refine Below.setCell ?_ ?_ _; rotate_left; exact (by first | omega | (simp; done) | (simp; omega))) | (with_reducible refine Below.alloc ?_ ?_ _; rotate_left; exact (by first | omega | (simp; done) | (simp; omega))) | with_reducible refine Below.drew ?_ | with_reducible refine Below_drewN ?_ _)⟩
        · have HN : Hid (first (left all0 (zs.take (j + 1))) (zs.drop (j + 1)) ((j + 1 : Nat) : Int) = G) := Lib.hid (by rw [HS.out]; rfl)
          clear HS
          go_wp2_with (go_at_call 55; refine (HM.out _ (by (repeat first | with_reducible exact Below.refl _ _ | with_reducible assumption | (with_reducible refine Below.setCell ?_ ?_ _; rotate_left; exact (by first | omega | (simp; done) | (simp; omega))) | (with_reducible refine Below.alloc ?_ ?_ _; rotate_left; exact (by first | omega | (simp; done) | (simp; omega))) | with_reducible refine Below.drew ?_ | with_reducible refine Below_drewN ?_ _))).mono ?_; rintro e w2 ⟨rfl, hb⟩; have hB2 := hB.trans (hb.mono hB.size); have hs2 := hB2.size)
          go_roundw
          case rel => exact ⟨j + 1, by omega, by go_num, HN, by (repeat first | with_reducible exact Below.refl _ _ | with_reducible assumption | (with_reducible refine Below.setCell ?_ ?_ _; rotate_left; exact (by first | omega | (simp; done) | (simp; omega))) | (with_reducible refine Below.alloc ?_ ?_ _; rotate_left; exact (by first | omega | (simp; done) | (simp; omega))) | with_reducible refine Below.drew ?_ | with_reducible refine Below_drewN ?_ _)⟩
          case measure => simp [intOf]; omega
      · have HN : Hid ((-1 : Int) = G) := Lib.hid (by rw [← hG.out, List.drop_of_length_le (by rw [HI.out.1]; omega)]; rfl)
        go_wp2
        go_ret
        exact ⟨by rw [← HN.out]; rfl, hB⟩
  · have hb1 : brokL zs = -1 := by
      by_cases hok : allOk zs = true
      · have : (calL zs).2.2 = 0 := by
          by_cases h : (calL zs).2.2 = 0
          · exact h
          · exact absurd ⟨hok, h⟩ hk
        exact (brok_iff zs hok).2 this
      · unfold brokL; rw [if_neg hok]
    have hne : (calL zs).2.2 ≠ 8 := by
      intro h
      by_cases hok : allOk zs = true
      · exact hk ⟨hok, by omega⟩
      · unfold calL at h; rw [if_neg hok] at h; simp at h
    have hnb : ((calL zs).2.2 != 8) = true := by rw [bne_iff_ne]; exact hne
    rw [hb1]
    clear hk hb1 hI hne
    generalize (calL zs).2.2 = e3 at *
    generalize (calL zs).1 = e1 at *
    generalize (calL zs).2.1 = e2 at *
    go_enter Tryd.func25, Tryd.ntmps25
    go_wp2_with (go_at_call 23; refine (HC.out _ (by (repeat first | with_reducible exact Below.refl _ _ | with_reducible assumption | (with_reducible refine Below.setCell ?_ ?_ _; rotate_left; exact (by first | omega | (simp; done) | (simp; omega))) | (with_reducible refine Below.alloc ?_ ?_ _; rotate_left; exact (by first | omega | (simp; done) | (simp; omega))) | with_reducible refine Below.drew ?_ | with_reducible refine Below_drewN ?_ _))).mono ?_; rintro e w1 ⟨rfl, hb⟩; have hB1 : Below w.heap.size w w1 := hb; have hs1 := hB1.size)
    go_ret
    exact ⟨rfl, by (repeat first | with_reducible exact Below.refl _ _ | with_reducible assumption | (with_reducible refine Below.setCell ?_ ?_ _; rotate_left; exact (by first | omega | (simp; done) | (simp; omega))) | (with_reducible refine Below.alloc ?_ ?_ _; rotate_left; exact (by first | omega | (simp; done) | (simp; omega))) | with_reducible refine Below.drew ?_ | with_reducible refine Below_drewN ?_ _)⟩

end Go.Proofs.YtjikhpdchockcaaDoor
end
