import Derived.Test.YtjikhpdchockcaaDoorJAM
section
/- Package sense: the contract of Calibrate, over this seat's translation. -/
namespace Go.Proofs.YtjikhpdchockcaaDoor
set_option linter.unusedVariables false
set_option linter.unusedSimpArgs false
open Go.RowKit Go.Shelf

theorem allOk_mem {l : List Tri} (h : allOk l = true) {x : Tri} (hx : x ∈ l) : okP x = true := List.all_eq_true.1 h x hx

theorem SpB.set {W : World} {b g i : Nat} {s : Int × Int} (h : SpB W b s) (hne : b ≠ g) (v : Value) : SpB (W.setCell ⟨g, i, none⟩ v) b s :=
  ⟨by rw [World.size_setCell]; exact h.lt, by rw [World.cell?_setCell_other _ _ _ _ (by intro e; injection e with e1 e2; exact hne e1.symm)]; exact h.c0, by rw [World.cell?_setCell_other _ _ _ _ (by intro e; injection e with e1 e2; exact hne e1.symm)]; exact h.c1,
    by rw [World.frozen?_setCell]; exact h.f0, by rw [World.frozen?_setCell]; exact h.f1⟩
theorem SpB.put {W : World} {g : Nat} {s : Int × Int} (h : SpB W g s) (m : Int × Int) : SpB ((W.setCell ⟨g, 0, none⟩ (.int .i64 m.1)).setCell ⟨g, 1, none⟩ (.int .i64 m.2)) g m :=
  ⟨by rw [World.size_setCell, World.size_setCell]; exact h.lt,
    by rw [World.cell?_setCell_other _ _ _ _ (by intro e; injection e with e1 e2; exact absurd e2 (by decide))]; exact World.cell?_setCell_same' _ _ _ (by rw [h.c0]; rfl),
    World.cell?_setCell_same' _ _ _ (by rw [World.cell?_setCell_other _ _ _ _ (by intro e; injection e with e1 e2; exact absurd e2 (by decide)), h.c1]; rfl),
    by rw [World.frozen?_setCell, World.frozen?_setCell]; exact h.f0, by rw [World.frozen?_setCell, World.frozen?_setCell]; exact h.f1⟩

set_option maxRecDepth 100000 in
set_option maxHeartbeats 4000000 in
theorem calibrate_bad (A : Option Addr) (len cap : Nat) (w : World) (HV : Hid (∀ W, Below w.heap.size w W → Calls Tryd.prog 52 #[.slice A len cap] W (Ret (.bool false) W))) :
    Calls Tryd.prog 22 #[.slice A len cap] w (Ret (.tuple #[.agg #[.int .i64 0, .int .i64 0], .int .i64 1]) w) := by
  go_enter Tryd.func22, Tryd.ntmps22
  go_wp2_with (go_at_call 52; refine (HV.out _ (by (repeat first | with_reducible exact Below.refl _ _ | with_reducible assumption | (with_reducible refine Below.setCell ?_ ?_ _; rotate_left; exact (by first | omega | (simp; done) | (simp; omega))) | (with_reducible refine Below.alloc ?_ ?_ _; rotate_left; exact (by first | omega | (simp; done) | (simp; omega))) | with_reducible refine Below.drew ?_ | with_reducible refine Below_drewN ?_ _))).mono ?_; rintro e w1 ⟨rfl, hb⟩; have hB : Below w.heap.size w w1 := Below.trans (by (repeat first | with_reducible exact Below.refl _ _ | with_reducible assumption | (with_reducible refine Below.setCell ?_ ?_ _; rotate_left; exact (by first | omega | (simp; done) | (simp; omega))) | (with_reducible refine Below.alloc ?_ ?_ _; rotate_left; exact (by first | omega | (simp; done) | (simp; omega))) | with_reducible refine Below.drew ?_ | with_reducible refine Below_drewN ?_ _)) (hb.mono (by first | omega | (simp; done) | (simp; omega))); obtain ⟨hc, hf⟩ := bcell hb; have hs := hb.size; clear hb; (try simp only [World.size_alloc, World.size_setCell] at hc hf); (try simp only [World.size_alloc, World.size_setCell] at hs); (try have hs' := Nat.lt_of_succ_le hs); (try have hs0 : w.heap.size < w1.heap.size := by omega); (try have hs1 : w.heap.size + 1 < w1.heap.size := by omega); (try have hs2 : w.heap.size + 1 + 1 < w1.heap.size := by omega); (try have hs3 : w.heap.size + 1 + 1 + 1 < w1.heap.size := by omega); (try have iso : (w1.cell? ⟨w.heap.size, 0, none⟩).isSome = true := by (rw [hc _ _ (by first | omega | (simp; done) | (simp; omega))]; (try simp only [isSome_setCell]); first | assumption | go_simp)); (try have iso : (w1.cell? ⟨w.heap.size, 1, none⟩).isSome = true := by (rw [hc _ _ (by first | omega | (simp; done) | (simp; omega))]; (try simp only [isSome_setCell]); first | assumption | go_simp)); (try have iso : (w1.cell? ⟨w.heap.size + 1, 0, none⟩).isSome = true := by (rw [hc _ _ (by first | omega | (simp; done) | (simp; omega))]; (try simp only [isSome_setCell]); first | assumption | go_simp)); (try have iso : (w1.cell? ⟨w.heap.size + 1, 1, none⟩).isSome = true := by (rw [hc _ _ (by first | omega | (simp; done) | (simp; omega))]; (try simp only [isSome_setCell]); first | assumption | go_simp)); (try have iso : (w1.cell? ⟨w.heap.size + 1 + 1, 0, none⟩).isSome = true := by (rw [hc _ _ (by first | omega | (simp; done) | (simp; omega))]; (try simp only [isSome_setCell]); first | assumption | go_simp)); (try have iso : (w1.cell? ⟨w.heap.size + 1 + 1, 1, none⟩).isSome = true := by (rw [hc _ _ (by first | omega | (simp; done) | (simp; omega))]; (try simp only [isSome_setCell]); first | assumption | go_simp)))
  exact bodyPost_ret (res3 Tryd.results22 _ _ _ _ _ _ rfl rfl (by (try simp only [isSome_setCell]); first | assumption | go_simp) (by (try simp only [isSome_setCell]); first | assumption | go_simp)) rfl ⟨rfl, by (repeat first | with_reducible exact Below.refl _ _ | with_reducible assumption | (with_reducible refine Below.setCell ?_ ?_ _; rotate_left; exact (by first | omega | (simp; done) | (simp; omega))) | (with_reducible refine Below.alloc ?_ ?_ _; rotate_left; exact (by first | omega | (simp; done) | (simp; omega))) | with_reducible refine Below.drew ?_ | with_reducible refine Below_drewN ?_ _)⟩

set_option maxRecDepth 100000 in
set_option maxHeartbeats 8000000 in
theorem calibrate_ok (A : Option Addr) (len cap : Nat) (zs : List Tri) (w : World) (hI : IsT 3 pairCells w A len zs) (hl : len ≤ 1000000000000000) (hok : allOk zs = true) (HV : Hid (∀ W, Below w.heap.size w W → Calls Tryd.prog 52 #[.slice A len cap] W (Ret (.bool true) W))) :
    Calls Tryd.prog 22 #[.slice A len cap] w (Ret (.tuple #[.agg #[.int .i64 (calL zs).1, .int .i64 (calL zs).2.1], .int .i64 (calL zs).2.2]) w) := by
  have HE : Hid (calL zs = if vld (left all0 zs).1 (left all0 zs).2 = true then ((left all0 zs).1, (left all0 zs).2, 0) else (0, 0, 8)) := Lib.hid (by unfold calL; rw [if_pos hok])
  obtain ⟨G, hG0⟩ : ∃ G, left all0 zs = G := ⟨_, rfl⟩
  have HG := Lib.hid hG0
  rw [hG0] at HE
  generalize calL zs = T at *
  have HI := Lib.hid hI
  have HO := Lib.hid (fun (x : Tri) (hx : x ∈ zs) => allOk_mem hok hx)
  clear hG0 hI hok
  go_enter Tryd.func22, Tryd.ntmps22
  go_wp2_with (first | (go_at_call 52; refine (HV.out _ (by (repeat first | with_reducible exact Below.refl _ _ | with_reducible assumption | (with_reducible refine Below.setCell ?_ ?_ _; rotate_left; exact (by first | omega | (simp; done) | (simp; omega))) | (with_reducible refine Below.alloc ?_ ?_ _; rotate_left; exact (by first | omega | (simp; done) | (simp; omega))) | with_reducible refine Below.drew ?_ | with_reducible refine Below_drewN ?_ _))).mono ?_; rintro e w1 ⟨rfl, hb1⟩) | (go_at_call 53; refine (everyGain_any _).mono ?_; rintro e w2 ⟨rfl, hb2⟩) | (go_at_call 54; refine (narrowing_any _).mono ?_; rintro e w3 ⟨b, rfl, hbb, sb, hb3⟩))
  have z1 := hb1.size
  have z2 := hb2.size
  have z3 := hb3.size
  simp only [World.size_alloc] at z1
  have r0 : SpB (w.alloc (.cells #[.int .i64 0, .int .i64 0] 57)) w.heap.size (0, 0) := ⟨by simp, by go_simp, by go_simp, by go_simp, by go_simp⟩
  have r3 := ((r0.below hb1).below hb2).below hb3
  have hB3 : Below w.heap.size w w3 := ((Below.trans (by (repeat first | with_reducible exact Below.refl _ _ | with_reducible assumption | (with_reducible refine Below.setCell ?_ ?_ _; rotate_left; exact (by first | omega | (simp; done) | (simp; omega))) | (with_reducible refine Below.alloc ?_ ?_ _; rotate_left; exact (by first | omega | (simp; done) | (simp; omega))) | with_reducible refine Below.drew ?_ | with_reducible refine Below_drewN ?_ _)) (hb1.mono (by first | omega | ((try simp only [World.size_alloc, World.size_setCell, size_drew, size_drewN]); omega) | (simp; done) | (simp; omega)))).trans (hb2.mono (by omega))).trans (hb3.mono (by omega))
  clear hb1 hb2 hb3 r0
  obtain ⟨g, hg⟩ : ∃ g, w3.heap.size = g := ⟨_, rfl⟩
  rw [hg]
  have HGg := Lib.hid hg
  have q1 : w.heap.size < b := by omega
  have q2 : w.heap.size < g := by omega
  have q3 : b < g := by have := sb.lt; omega
  clear hg
  go_loopw [7, 16] (fun _ i wr => ∃ (j : Nat) (s : Int × Int), j ≤ len ∧ i = .int .i64 j ∧ Hid (left s (zs.drop j) = G) ∧ SpB wr b s ∧ SpB wr g s ∧ SpB wr w.heap.size (0, 0) ∧ Below w.heap.size w wr) (fun _ i _ => len - (intOf i).toNat)
  case atStart =>
    have hg := HGg.out
    subst hg
    have ha : Below w3.heap.size w3 (w3.alloc (.cells #[.int .i64 (-1000000000), .int .i64 1000000000] 57)) := (Below.refl _ _).alloc (Nat.le_refl _) _
    exact ⟨0, all0, Nat.zero_le _, rfl, Lib.hid HG.out, sb.below ha, ⟨by simp, by go_simp; rfl, by go_simp; rfl, by go_simp, by go_simp⟩, r3.below ha, hB3.trans (ha.mono (by omega))⟩
  case round =>
    obtain ⟨j, s, hj, rfl, hG, sB, sG, sR, hB⟩ := hrel
    by_cases hlt : j < len
    · obtain ⟨hzl, hcl⟩ := HI.out.below hB
      obtain ⟨pb, o, rfl, hb0, hcl⟩ := hcl (by omega)
      obtain ⟨x, hx⟩ : ∃ x, zs[j]? = some x := ⟨_, List.getElem?_eq_getElem (by omega)⟩
      have HS := Lib.hid (show left (nar s x) (zs.drop (j + 1)) = G from by
        obtain ⟨hk, rfl⟩ := List.getElem?_eq_some_iff.1 hx
        rw [← hG.out, left_drop hk])
      have x0 : wr.cell? ⟨pb, o + j * 3, none⟩ = some (.int .i64 x.1) := by have h := hcl j x hx 0 _ rfl; simpa using h
      have x1 : wr.cell? ⟨pb, o + j * 3 + 1, none⟩ = some (.int .i64 x.2.1) := by have h := hcl j x hx 1 _ rfl; simpa using h
      have x2 : wr.cell? ⟨pb, o + j * 3 + 2, none⟩ = some (.int .i64 x.2.2) := by have h := hcl j x hx 2 _ rfl; simpa using h
      have HN := Lib.hid (fun W (hs : SpB W b s) => narrowing1_any x (HO.out x (List.mem_of_getElem? hx)) b s W hs)
      have y1 := sB.lt
      have y2 := sG.lt
      clear hcl hx hzl hG
      generalize nar s x = m at *
      obtain ⟨v, lo, hi⟩ := x
      dsimp only at x0 x1 x2
      go_wp2_with ((with_reducible show Calls _ 101 _ _ _); refine (HN.out _ (sB.below (by (repeat first | with_reducible exact Below.refl _ _ | with_reducible assumption | (with_reducible refine Below.setCell ?_ ?_ _; rotate_left; exact (by first | omega | (simp; done) | (simp; omega))) | (with_reducible refine Below.alloc ?_ ?_ _; rotate_left; exact (by first | omega | (simp; done) | (simp; omega))) | with_reducible refine Below.drew ?_ | with_reducible refine Below_drewN ?_ _)))).mono ?_; rintro e w5 ⟨rfl, s5, R5⟩; have g5 := (sG.below (by (repeat first | with_reducible exact Below.refl _ _ | with_reducible assumption | (with_reducible refine Below.setCell ?_ ?_ _; rotate_left; exact (by first | omega | (simp; done) | (simp; omega))) | (with_reducible refine Below.alloc ?_ ?_ _; rotate_left; exact (by first | omega | (simp; done) | (simp; omega))) | with_reducible refine Below.drew ?_ | with_reducible refine Below_drewN ?_ _))).reg R5 (by omega); have t5 := (sR.below (by (repeat first | with_reducible exact Below.refl _ _ | with_reducible assumption | (with_reducible refine Below.setCell ?_ ?_ _; rotate_left; exact (by first | omega | (simp; done) | (simp; omega))) | (with_reducible refine Below.alloc ?_ ?_ _; rotate_left; exact (by first | omega | (simp; done) | (simp; omega))) | with_reducible refine Below.drew ?_ | with_reducible refine Below_drewN ?_ _))).reg R5 (by omega); have hB5 : Below w.heap.size w w5 := Reg.out R5 (by (repeat first | with_reducible exact Below.refl _ _ | with_reducible assumption | (with_reducible refine Below.setCell ?_ ?_ _; rotate_left; exact (by first | omega | (simp; done) | (simp; omega))) | (with_reducible refine Below.alloc ?_ ?_ _; rotate_left; exact (by first | omega | (simp; done) | (simp; omega))) | with_reducible refine Below.drew ?_ | with_reducible refine Below_drewN ?_ _)) (by omega); have y3 := s5.lt; obtain ⟨gl, g0, g1, gf0, gf1⟩ := g5; clear R5)
      have g5 : SpB w5 g s := ⟨gl, g0, g1, gf0, gf1⟩
      go_roundw
      case rel => exact ⟨j + 1, m, by omega, by go_num, HS, (s5.set (by omega) _).set (by omega) _, g5.put m, (t5.set (by omega) _).set (by omega) _, by (repeat first | with_reducible exact Below.refl _ _ | with_reducible assumption | (with_reducible refine Below.setCell ?_ ?_ _; rotate_left; exact (by first | omega | (simp; done) | (simp; omega))) | (with_reducible refine Below.alloc ?_ ?_ _; rotate_left; exact (by first | omega | (simp; done) | (simp; omega))) | with_reducible refine Below.drew ?_ | with_reducible refine Below_drewN ?_ _)⟩
      case measure => simp [intOf]; omega
    · have HN : Hid (s = G) := Lib.hid (by rw [← hG.out, List.drop_of_length_le (by rw [HI.out.1]; omega)]; rfl)
      obtain rfl := HN.out
      clear HN hG HG
      obtain ⟨gl, g0, g1, gf0, gf1⟩ := sG
      obtain ⟨rl, k0, k1, kf0, kf1⟩ := sR
      cases hv : vld s.1 s.2
      · have HF : Hid (T = (0, 0, 8)) := Lib.hid (by rw [HE.out, hv]; rfl)
        clear HE
        go_wp2_with (go_at_call 35; refine (valid_any _ _ _).mono ?_; rintro e w6 ⟨rfl, hb⟩; have h6 := hb.size; have K0 := (hb.cell (p := ⟨w.heap.size, 0, none⟩) rl).trans k0; have K1 := (hb.cell (p := ⟨w.heap.size, 1, none⟩) rl).trans k1; have KF0 := (hb.frozen (p := ⟨w.heap.size, 0, none⟩) rl).trans kf0; have KF1 := (hb.frozen (p := ⟨w.heap.size, 1, none⟩) rl).trans kf1; have hB6 : Below w.heap.size w w6 := hB.trans (hb.mono (by omega)))
        rw [HF.out]
        exact bodyPost_ret (res3p Tryd.results22 _ _ _ _ _ _ rfl rfl (by go_simp) (by go_simp)) rfl ⟨rfl, by (repeat first | with_reducible exact Below.refl _ _ | with_reducible assumption | (with_reducible refine Below.setCell ?_ ?_ _; rotate_left; exact (by first | omega | (simp; done) | (simp; omega))) | (with_reducible refine Below.alloc ?_ ?_ _; rotate_left; exact (by first | omega | (simp; done) | (simp; omega))) | with_reducible refine Below.drew ?_ | with_reducible refine Below_drewN ?_ _)⟩
      · have HF : Hid (T = (s.1, s.2, 0)) := Lib.hid (by rw [HE.out, hv]; rfl)
        clear HE
        go_wp2_with (go_at_call 35; refine (valid_any _ _ _).mono ?_; rintro e w6 ⟨rfl, hb⟩; have h6 := hb.size; have K0 := (hb.cell (p := ⟨w.heap.size, 0, none⟩) rl).trans k0; have K1 := (hb.cell (p := ⟨w.heap.size, 1, none⟩) rl).trans k1; have KF0 := (hb.frozen (p := ⟨w.heap.size, 0, none⟩) rl).trans kf0; have KF1 := (hb.frozen (p := ⟨w.heap.size, 1, none⟩) rl).trans kf1; have G0 := (hb.cell (p := ⟨g, 0, none⟩) gl).trans g0; have G1 := (hb.cell (p := ⟨g, 1, none⟩) gl).trans g1; have hB6 : Below w.heap.size w w6 := hB.trans (hb.mono (by omega)))
        rw [HF.out]
        exact bodyPost_ret (res3p Tryd.results22 _ _ _ _ _ _ rfl rfl (by go_simp) (by go_simp)) rfl ⟨rfl, by (repeat first | with_reducible exact Below.refl _ _ | with_reducible assumption | (with_reducible refine Below.setCell ?_ ?_ _; rotate_left; exact (by first | omega | (simp; done) | (simp; omega))) | (with_reducible refine Below.alloc ?_ ?_ _; rotate_left; exact (by first | omega | (simp; done) | (simp; omega))) | with_reducible refine Below.drew ?_ | with_reducible refine Below_drewN ?_ _)⟩

theorem calibrate_any (A : Option Addr) (len cap : Nat) (zs : List Tri) (w : World) (hI : IsT 3 pairCells w A len zs) (hl : len ≤ 1000000000000000) :
    Calls Tryd.prog 22 #[.slice A len cap] w (Ret (.tuple #[.agg #[.int .i64 (calL zs).1, .int .i64 (calL zs).2.1], .int .i64 (calL zs).2.2]) w) := by
  have HV := Lib.hid (fun W (hb : Below w.heap.size w W) => validPairs_any A len cap zs W (hI.below hb) hl)
  cases h : allOk zs
  · rw [h] at HV
    rw [show calL zs = (0, 0, 1) by unfold calL; rw [h]; rfl]
    exact calibrate_bad A len cap w HV
  · rw [h] at HV
    exact calibrate_ok A len cap zs w hI hl h HV

end Go.Proofs.YtjikhpdchockcaaDoor
end
section
/- Package sense: the contract of Broken, over this seat's translation. -/
namespace Go.Proofs.YtjikhpdchockcaaDoor
set_option linter.unusedVariables false
set_option linter.unusedSimpArgs false
open Go.RowKit Go.Shelf

set_option maxHeartbeats 4000000 in
theorem broken_bad (A : Option Addr) (len cap : Nat) (w : World) (HV : Hid (∀ W, Below w.heap.size w W → Calls Tryd.prog 52 #[.slice A len cap] W (Ret (.bool false) W))) :
    Calls Tryd.prog 24 #[.slice A len cap] w (Ret (.int .i64 (-1)) w) := by
  go_enter Tryd.func24, Tryd.ntmps24
  go_wp2_with (go_at_call 52; refine (HV.out _ (by (repeat first | with_reducible exact Below.refl _ _ | with_reducible assumption | (with_reducible refine Below.setCell ?_ ?_ _; rotate_left; exact (by first | omega | (simp; done) | (simp; omega))) | (with_reducible refine Below.alloc ?_ ?_ _; rotate_left; exact (by first | omega | (simp; done) | (simp; omega))) | with_reducible refine Below.drew ?_ | with_reducible refine Below_drewN ?_ _))).mono ?_; rintro e w1 ⟨rfl, hb⟩; have hB : Below w.heap.size w w1 := Below.trans (by (repeat first | with_reducible exact Below.refl _ _ | with_reducible assumption | (with_reducible refine Below.setCell ?_ ?_ _; rotate_left; exact (by first | omega | (simp; done) | (simp; omega))) | (with_reducible refine Below.alloc ?_ ?_ _; rotate_left; exact (by first | omega | (simp; done) | (simp; omega))) | with_reducible refine Below.drew ?_ | with_reducible refine Below_drewN ?_ _)) (hb.mono (by first | omega | (simp; done) | (simp; omega))); obtain ⟨hc, hf⟩ := bcell hb; have hs := hb.size; clear hb; (try simp only [World.size_alloc, World.size_setCell] at hc hf); (try simp only [World.size_alloc, World.size_setCell] at hs); (try have hs' := Nat.lt_of_succ_le hs); (try have hs0 : w.heap.size < w1.heap.size := by omega); (try have hs1 : w.heap.size + 1 < w1.heap.size := by omega); (try have hs2 : w.heap.size + 1 + 1 < w1.heap.size := by omega); (try have hs3 : w.heap.size + 1 + 1 + 1 < w1.heap.size := by omega))
  go_ret
  exact ⟨rfl, by (repeat first | with_reducible exact Below.refl _ _ | with_reducible assumption | (with_reducible refine Below.setCell ?_ ?_ _; rotate_left; exact (by first | omega | (simp; done) | (simp; omega))) | (with_reducible refine Below.alloc ?_ ?_ _; rotate_left; exact (by first | omega | (simp; done) | (simp; omega))) | with_reducible refine Below.drew ?_ | with_reducible refine Below_drewN ?_ _)⟩

set_option maxRecDepth 100000 in
set_option maxHeartbeats 8000000 in
theorem broken_ok (A : Option Addr) (len cap : Nat) (zs : List Tri) (w : World) (hI : IsT 3 pairCells w A len zs) (hl : len ≤ 1000000000000000) (hok : allOk zs = true) (HV : Hid (∀ W, Below w.heap.size w W → Calls Tryd.prog 52 #[.slice A len cap] W (Ret (.bool true) W))) :
    Calls Tryd.prog 24 #[.slice A len cap] w (Ret (.int .i64 (brokL zs)) w) := by
  obtain ⟨G, hG0⟩ : ∃ G, brokL zs = G := ⟨_, rfl⟩
  have HG : Hid (first all0 zs 0 = G) := Lib.hid (by rw [← hG0]; unfold brokL; rw [if_pos hok])
  rw [hG0]
  have HI := Lib.hid hI
  have HO := Lib.hid (fun (x : Tri) (hx : x ∈ zs) => allOk_mem hok hx)
  clear hG0 hI hok
  go_enter Tryd.func24, Tryd.ntmps24
  go_wp2_with (first | (go_at_call 52; refine (HV.out _ (by (repeat first | with_reducible exact Below.refl _ _ | with_reducible assumption | (with_reducible refine Below.setCell ?_ ?_ _; rotate_left; exact (by first | omega | (simp; done) | (simp; omega))) | (with_reducible refine Below.alloc ?_ ?_ _; rotate_left; exact (by first | omega | (simp; done) | (simp; omega))) | with_reducible refine Below.drew ?_ | with_reducible refine Below_drewN ?_ _))).mono ?_; rintro e w1 ⟨rfl, hb1⟩) | (go_at_call 54; refine (narrowing_any _).mono ?_; rintro e w3 ⟨b, rfl, hbb, sb, hb3⟩))
  have z1 := hb1.size
  have z3 := hb3.size
  have hB3 : Below w.heap.size w w3 := hb1.trans (hb3.mono (by omega))
  clear hb1 hb3
  have q1 : w.heap.size ≤ b := by omega
  go_loopw [4, 5, 12] (fun _ _ i wr => ∃ (j : Nat) (s : Int × Int), j ≤ len ∧ i = .int .i64 j ∧ Hid (first s (zs.drop j) j = G) ∧ SpB wr b s ∧ Below w.heap.size w wr) (fun _ _ i _ => len - (intOf i).toNat)
  case atStart => exact ⟨0, all0, Nat.zero_le _, rfl, Lib.hid HG.out, sb, hB3⟩
  case round =>
    obtain ⟨j, s, hj, rfl, hG, sB, hB⟩ := hrel
    by_cases hlt : j < len
    · obtain ⟨hzl, hcl⟩ := HI.out.below hB
      obtain ⟨pb, o, rfl, hb0, hcl⟩ := hcl (by omega)
      obtain ⟨x, hx⟩ : ∃ x, zs[j]? = some x := ⟨_, List.getElem?_eq_getElem (by omega)⟩
      have HS := Lib.hid (show (if vld (nar s x).1 (nar s x).2 = true then first (nar s x) (zs.drop (j + 1)) ((j : Int) + 1) else (j : Int)) = G from by
        obtain ⟨hk, rfl⟩ := List.getElem?_eq_some_iff.1 hx
        rw [← hG.out, first_drop hk])
      have x0 : wr.cell? ⟨pb, o + j * 3, none⟩ = some (.int .i64 x.1) := by have h := hcl j x hx 0 _ rfl; simpa using h
      have x1 : wr.cell? ⟨pb, o + j * 3 + 1, none⟩ = some (.int .i64 x.2.1) := by have h := hcl j x hx 1 _ rfl; simpa using h
      have x2 : wr.cell? ⟨pb, o + j * 3 + 2, none⟩ = some (.int .i64 x.2.2) := by have h := hcl j x hx 2 _ rfl; simpa using h
      have HN := Lib.hid (fun W (hs : SpB W b s) => narrowing1_any x (HO.out x (List.mem_of_getElem? hx)) b s W hs)
      have y1 := sB.lt
      clear hcl hx hzl hG
      generalize nar s x = m at *
      obtain ⟨v, lo, hi⟩ := x
      dsimp only at x0 x1 x2
      cases hv : vld m.1 m.2
      · have HF : Hid ((j : Int) = G) := Lib.hid (by have := HS.out; rw [hv] at this; exact this)
        clear HS
        go_wp2_with (first | ((with_reducible show Calls _ 101 _ _ _); refine (HN.out _ (sB.below (by (repeat first | with_reducible exact Below.refl _ _ | with_reducible assumption | (with_reducible refine Below.setCell ?_ ?_ _; rotate_left; exact (by first | omega | (simp; done) | (simp; omega))) | (with_reducible refine Below.alloc ?_ ?_ _; rotate_left; exact (by first | omega | (simp; done) | (simp; omega))) | with_reducible refine Below.drew ?_ | with_reducible refine Below_drewN ?_ _)))).mono ?_; rintro e w5 ⟨rfl, s5, R5⟩; have hB5 : Below w.heap.size w w5 := Reg.out R5 (by (repeat first | with_reducible exact Below.refl _ _ | with_reducible assumption | (with_reducible refine Below.setCell ?_ ?_ _; rotate_left; exact (by first | omega | (simp; done) | (simp; omega))) | (with_reducible refine Below.alloc ?_ ?_ _; rotate_left; exact (by first | omega | (simp; done) | (simp; omega))) | with_reducible refine Below.drew ?_ | with_reducible refine Below_drewN ?_ _)) (by omega); clear R5) | (go_at_call 35; refine (valid_any _ _ _).mono ?_; rintro e w6 ⟨rfl, hb⟩; have hB6 : Below w.heap.size w w6 := hB5.trans (hb.mono hB5.size)))
        go_ret
        exact ⟨by rw [← HF.out]; rfl, hB6⟩
      · have HF : Hid (first m (zs.drop (j + 1)) ((j + 1 : Nat) : Int) = G) := Lib.hid (by have := HS.out; rw [hv] at this; exact this)
        clear HS
        go_wp2_with (first | ((with_reducible show Calls _ 101 _ _ _); refine (HN.out _ (sB.below (by (repeat first | with_reducible exact Below.refl _ _ | with_reducible assumption | (with_reducible refine Below.setCell ?_ ?_ _; rotate_left; exact (by first | omega | (simp; done) | (simp; omega))) | (with_reducible refine Below.alloc ?_ ?_ _; rotate_left; exact (by first | omega | (simp; done) | (simp; omega))) | with_reducible refine Below.drew ?_ | with_reducible refine Below_drewN ?_ _)))).mono ?_; rintro e w5 ⟨rfl, s5, R5⟩; have hB5 : Below w.heap.size w w5 := Reg.out R5 (by (repeat first | with_reducible exact Below.refl _ _ | with_reducible assumption | (with_reducible refine Below.setCell ?_ ?_ _; rotate_left; exact (by first | omega | (simp; done) | (simp; omega))) | (with_reducible refine Below.alloc ?_ ?_ _; rotate_left; exact (by first | omega | (simp; done) | (simp; omega))) | with_reducible refine Below.drew ?_ | with_reducible refine Below_drewN ?_ _)) (by omega); clear R5) | (go_at_call 35; refine (valid_any _ _ _).mono ?_; rintro e w6 ⟨rfl, hb⟩; have hB6 : Below w.heap.size w w6 := hB5.trans (hb.mono hB5.size); have s6 := s5.below hb))
        go_roundw
        case rel => exact ⟨j + 1, m, by omega, by go_num, HF, s6, hB6⟩
        case measure => simp [intOf]; omega
    · have HN : Hid ((-1 : Int) = G) := Lib.hid (by rw [← hG.out, List.drop_of_length_le (by rw [HI.out.1]; omega)]; rfl)
      go_wp2
      go_ret
      exact ⟨by rw [← HN.out]; rfl, hB⟩

theorem broken_any (A : Option Addr) (len cap : Nat) (zs : List Tri) (w : World) (hI : IsT 3 pairCells w A len zs) (hl : len ≤ 1000000000000000) :
    Calls Tryd.prog 24 #[.slice A len cap] w (Ret (.int .i64 (brokL zs)) w) := by
  have HV := Lib.hid (fun W (hb : Below w.heap.size w W) => validPairs_any A len cap zs W (hI.below hb) hl)
  cases h : allOk zs
  · rw [h] at HV
    rw [show brokL zs = -1 by unfold brokL; rw [h]; rfl]
    exact broken_bad A len cap w HV
  · rw [h] at HV
    exact broken_ok A len cap zs w hI hl h HV

end Go.Proofs.YtjikhpdchockcaaDoor
end
