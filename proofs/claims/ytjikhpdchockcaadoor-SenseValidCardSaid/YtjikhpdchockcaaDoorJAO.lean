import Derived.Test.YtjikhpdchockcaaDoorJAN
section
/- Package sense and its specification: ValidReadings, the specification's ValidFaults and ValidReadings, brief, over this seat's translation (written by mk_sy.py). -/
namespace Go.Proofs.YtjikhpdchockcaaDoor
set_option linter.unusedVariables false
set_option linter.unusedSimpArgs false
open Go.RowKit Go.Shelf

set_option maxHeartbeats 1000000 in
theorem validReadings1_any (s : SpanD) (w : World) :
    Calls Tryd.prog 34 #[s.v] w (Ret (.bool (!vld s.lo s.hi)) w) := by
  obtain ⟨a, b⟩ := s
  show Calls Tryd.prog 34 #[.agg #[.int .i64 a, .int .i64 b]] w _
  go_enter Tryd.func34, Tryd.ntmps34
  go_wp2_with (go_at_call 35; refine (valid_any _ _ _).mono ?_; rintro e w1 ⟨rfl, hb⟩)
  go_ret
  exact ⟨rfl, Below.trans (by (repeat first | with_reducible exact Below.refl _ _ | with_reducible assumption | (with_reducible refine Below.setCell ?_ ?_ _; rotate_left; exact (by first | omega | (simp; done) | (simp; omega))) | (with_reducible refine Below.alloc ?_ ?_ _; rotate_left; exact (by first | omega | (simp; done) | (simp; omega))) | with_reducible refine Below.drew ?_ | with_reducible refine Below_drewN ?_ _)) (hb.mono (by first | omega | ((try simp only [World.size_alloc, World.size_setCell, size_drew, size_drewN]); omega) | (simp; done) | (simp; omega)))⟩

set_option maxRecDepth 100000 in
set_option maxHeartbeats 4000000 in
theorem validReadings_any (R : MachR) (M : MachD) (F : Option Addr) (len cap : Nat) (zs : List SpanD) (w : World) (hM : IsM w R M) (hF : IsT 2 SpanD.cells w F len zs) (hl : len ≤ 1000000000000000) :
    Calls Tryd.prog 11 #[.agg (machCells R M), .slice F len cap] w (Ret (.bool (readsB M zs)) w) := by
  have HE : Hid (readsB M zs = (decide (checkC M = 0) && (decide (zs.length = M.sensors.length) && zs.all fun s => vld s.lo s.hi))) := Lib.hid rfl
  have hn := hM.sensors.1
  have hz := hF.1
  have H0 := Lib.hid (fun W (hb : Below w.heap.size w W) => check_any R M W (hM.below hb))
  have HC := Lib.hid (fun W (hb : Below w.heap.size w W) => containsSpan0 34 (fun s => !vld s.lo s.hi) F len cap zs W (hF.below hb) hl (fun args W => enters_of Tryd.func34 (by kernel_rfl) rfl args W)
      (fun x W' _ hB => validReadings1_any x W'))
  rw [hn, hz] at HE
  have HA : Hid ((zs.any fun s => !vld s.lo s.hi) = !zs.all fun s => vld s.lo s.hi) := Lib.hid (by rw [List.not_all_eq_any_not])
  generalize readsB M zs = G at *
  generalize checkC M = c at *
  generalize (zs.any fun s => !vld s.lo s.hi) = ny at *
  generalize (zs.all fun s => vld s.lo s.hi) = al at *
  clear hM hF hn hz
  obtain ⟨A, B, C, D, la, ca, lb, cb, lc, cc, ld, cd⟩ := R
  obtain ⟨name, coils, shells, limits, ⟨r, z, nr, nz, step⟩, sensors⟩ := M
  dsimp only at *
  have H0 := Lib.hid (show ∀ W, Below w.heap.size w W → Calls Tryd.prog 27 #[.agg #[.string name, .slice A la ca, .slice B lb cb, .slice C lc cc, .int .i64 r, .int .i64 z, .int .i64 nr, .int .i64 nz, .int .i64 step, .slice D ld cd]] W (Ret (.int .i64 c) W) from H0.out)
  show Calls Tryd.prog 11 #[.agg #[.string name, .slice A la ca, .slice B lb cb, .slice C lc cc, .int .i64 r, .int .i64 z, .int .i64 nr, .int .i64 nz, .int .i64 step, .slice D ld cd], .slice F len cap] w _
  by_cases hc : c = 0
  · subst hc
    by_cases hq : len = ld
    · have HF : Hid (al = G) := Lib.hid (by rw [HE.out, decide_eq_true hq]; rfl)
      have hny : ny = !al := HA.out
      have hb1 : ((len : Int) == (ld : Int)) = true := by rw [beq_iff_eq, hq]
      subst hny
      clear HE HA hq
      go_enter Tryd.func11, Tryd.ntmps11
      go_wp2_with fail
      refine (H0.out _ (by (repeat first | with_reducible exact Below.refl _ _ | with_reducible assumption | (with_reducible refine Below.setCell ?_ ?_ _; rotate_left; exact (by first | omega | (simp; done) | (simp; omega))) | (with_reducible refine Below.alloc ?_ ?_ _; rotate_left; exact (by first | omega | (simp; done) | (simp; omega))) | with_reducible refine Below.drew ?_ | with_reducible refine Below_drewN ?_ _))).mono ?_
      rintro e w1 ⟨rfl, hb⟩
      have q9 : w1.cell? ⟨w.heap.size, 9, none⟩ = some (.slice D ld cd) := by rw [hb.cell (p := ⟨w.heap.size, 9, none⟩) (by simp)]; go_simp
      have hs : w.heap.size < w1.heap.size := Nat.lt_of_lt_of_le (by simp) hb.size
      have hB1 : Below w.heap.size w w1 := Below.trans (by (repeat first | with_reducible exact Below.refl _ _ | with_reducible assumption | (with_reducible refine Below.setCell ?_ ?_ _; rotate_left; exact (by first | omega | (simp; done) | (simp; omega))) | (with_reducible refine Below.alloc ?_ ?_ _; rotate_left; exact (by first | omega | (simp; done) | (simp; omega))) | with_reducible refine Below.drew ?_ | with_reducible refine Below_drewN ?_ _)) (hb.mono (by first | omega | ((try simp only [World.size_alloc, World.size_setCell, size_drew, size_drewN]); omega) | (simp; done) | (simp; omega)))
      clear hb
      go_wp2_with fail
      refine (HC.out _ (by (repeat first | with_reducible exact Below.refl _ _ | with_reducible assumption | (with_reducible refine Below.setCell ?_ ?_ _; rotate_left; exact (by first | omega | (simp; done) | (simp; omega))) | (with_reducible refine Below.alloc ?_ ?_ _; rotate_left; exact (by first | omega | (simp; done) | (simp; omega))) | with_reducible refine Below.drew ?_ | with_reducible refine Below_drewN ?_ _))).mono ?_
      rintro e w2 ⟨rfl, hb⟩
      have hB2 : Below w.heap.size w w2 := hB1.trans (hb.mono hB1.size)
      clear hb
      go_wp2_with fail
      go_ret
      exact ⟨by rw [← HF.out]; cases al <;> rfl, by (repeat first | with_reducible exact Below.refl _ _ | with_reducible assumption | (with_reducible refine Below.setCell ?_ ?_ _; rotate_left; exact (by first | omega | (simp; done) | (simp; omega))) | (with_reducible refine Below.alloc ?_ ?_ _; rotate_left; exact (by first | omega | (simp; done) | (simp; omega))) | with_reducible refine Below.drew ?_ | with_reducible refine Below_drewN ?_ _)⟩
    · have HF : Hid (false = G) := Lib.hid (by rw [HE.out, decide_eq_false hq]; rfl)
      have hb1 : ((len : Int) == (ld : Int)) = false := by rw [beq_eq_false_iff_ne]; omega
      clear HE HC HA hq
      go_enter Tryd.func11, Tryd.ntmps11
      go_wp2_with fail
      refine (H0.out _ (by (repeat first | with_reducible exact Below.refl _ _ | with_reducible assumption | (with_reducible refine Below.setCell ?_ ?_ _; rotate_left; exact (by first | omega | (simp; done) | (simp; omega))) | (with_reducible refine Below.alloc ?_ ?_ _; rotate_left; exact (by first | omega | (simp; done) | (simp; omega))) | with_reducible refine Below.drew ?_ | with_reducible refine Below_drewN ?_ _))).mono ?_
      rintro e w1 ⟨rfl, hb⟩
      have q9 : w1.cell? ⟨w.heap.size, 9, none⟩ = some (.slice D ld cd) := by rw [hb.cell (p := ⟨w.heap.size, 9, none⟩) (by simp)]; go_simp
      have hs : w.heap.size < w1.heap.size := Nat.lt_of_lt_of_le (by simp) hb.size
      have hB1 : Below w.heap.size w w1 := Below.trans (by (repeat first | with_reducible exact Below.refl _ _ | with_reducible assumption | (with_reducible refine Below.setCell ?_ ?_ _; rotate_left; exact (by first | omega | (simp; done) | (simp; omega))) | (with_reducible refine Below.alloc ?_ ?_ _; rotate_left; exact (by first | omega | (simp; done) | (simp; omega))) | with_reducible refine Below.drew ?_ | with_reducible refine Below_drewN ?_ _)) (hb.mono (by first | omega | ((try simp only [World.size_alloc, World.size_setCell, size_drew, size_drewN]); omega) | (simp; done) | (simp; omega)))
      clear hb
      go_wp2_with fail
      go_ret
      exact ⟨by rw [← HF.out]; rfl, by (repeat first | with_reducible exact Below.refl _ _ | with_reducible assumption | (with_reducible refine Below.setCell ?_ ?_ _; rotate_left; exact (by first | omega | (simp; done) | (simp; omega))) | (with_reducible refine Below.alloc ?_ ?_ _; rotate_left; exact (by first | omega | (simp; done) | (simp; omega))) | with_reducible refine Below.drew ?_ | with_reducible refine Below_drewN ?_ _)⟩
  · have HF : Hid (false = G) := Lib.hid (by rw [HE.out, decide_eq_false hc]; rfl)
    have hcb : (c == 0) = false := by rw [beq_eq_false_iff_ne]; exact hc
    clear HE HC HA hc
    go_enter Tryd.func11, Tryd.ntmps11
    go_wp2_with fail
    refine (H0.out _ (by (repeat first | with_reducible exact Below.refl _ _ | with_reducible assumption | (with_reducible refine Below.setCell ?_ ?_ _; rotate_left; exact (by first | omega | (simp; done) | (simp; omega))) | (with_reducible refine Below.alloc ?_ ?_ _; rotate_left; exact (by first | omega | (simp; done) | (simp; omega))) | with_reducible refine Below.drew ?_ | with_reducible refine Below_drewN ?_ _))).mono ?_
    rintro e w1 ⟨rfl, hb⟩
    have hs : w.heap.size < w1.heap.size := Nat.lt_of_lt_of_le (by simp) hb.size
    have hB1 : Below w.heap.size w w1 := Below.trans (by (repeat first | with_reducible exact Below.refl _ _ | with_reducible assumption | (with_reducible refine Below.setCell ?_ ?_ _; rotate_left; exact (by first | omega | (simp; done) | (simp; omega))) | (with_reducible refine Below.alloc ?_ ?_ _; rotate_left; exact (by first | omega | (simp; done) | (simp; omega))) | with_reducible refine Below.drew ?_ | with_reducible refine Below_drewN ?_ _)) (hb.mono (by first | omega | ((try simp only [World.size_alloc, World.size_setCell, size_drew, size_drewN]); omega) | (simp; done) | (simp; omega)))
    clear hb
    go_wp2_with fail
    go_ret
    exact ⟨by rw [← HF.out]; rfl, by (repeat first | with_reducible exact Below.refl _ _ | with_reducible assumption | (with_reducible refine Below.setCell ?_ ?_ _; rotate_left; exact (by first | omega | (simp; done) | (simp; omega))) | (with_reducible refine Below.alloc ?_ ?_ _; rotate_left; exact (by first | omega | (simp; done) | (simp; omega))) | with_reducible refine Below.drew ?_ | with_reducible refine Below_drewN ?_ _)⟩

theorem all_drop {α : Type} (p : α → Bool) {l : List α} {k : Nat} {x : α} (h : l[k]? = some x) : (l.drop k).all p = (p x && (l.drop (k + 1)).all p) := by
  obtain ⟨hk, rfl⟩ := List.getElem?_eq_some_iff.1 h
  rw [List.drop_eq_getElem_cons hk]; rfl

set_option maxRecDepth 100000 in
set_option maxHeartbeats 8000000 in
theorem rvalidReadings_any (R : MachR) (M : MachD) (F : Option Addr) (len cap : Nat) (zs : List SpanD) (w : World) (hM : IsM w R M) (hF : IsT 2 SpanD.cells w F len zs) (hl : len ≤ 1000000000000000) :
    Calls Tryd.prog 12 #[.agg (machCells R M), .slice F len cap] w (Ret (.bool (readsB M zs)) w) := by
  have HE : Hid (readsB M zs = (decide (checkC M = 0) && (decide (zs.length = M.sensors.length) && zs.all fun s => vld s.lo s.hi))) := Lib.hid rfl
  have hn := hM.sensors.1
  have hz := hF.1
  have H0 := Lib.hid (fun W (hb : Below w.heap.size w W) => rcheck_any R M W (hM.below hb))
  have HI := Lib.hid hF
  rw [hn, hz] at HE
  generalize readsB M zs = G at *
  generalize checkC M = c at *
  clear hM hF hn hz
  obtain ⟨A, B, C, D, la, ca, lb, cb, lc, cc, ld, cd⟩ := R
  obtain ⟨name, coils, shells, limits, ⟨r, z, nr, nz, step⟩, sensors⟩ := M
  dsimp only at *
  have H0 := Lib.hid (show ∀ W, Below w.heap.size w W → Calls Tryd.prog 31 #[.agg #[.string name, .slice A la ca, .slice B lb cb, .slice C lc cc, .int .i64 r, .int .i64 z, .int .i64 nr, .int .i64 nz, .int .i64 step, .slice D ld cd]] W (Ret (.int .i64 c) W) from H0.out)
  show Calls Tryd.prog 12 #[.agg #[.string name, .slice A la ca, .slice B lb cb, .slice C lc cc, .int .i64 r, .int .i64 z, .int .i64 nr, .int .i64 nz, .int .i64 step, .slice D ld cd], .slice F len cap] w _
  by_cases hc : c = 0
  · subst hc
    by_cases hq : len = ld
    · have HG : Hid (((zs.drop 0).all fun s => vld s.lo s.hi) = G) := Lib.hid (by rw [HE.out, decide_eq_true hq]; rfl)
      have hb1 : ((len : Int) != (ld : Int)) = false := by rw [bne_eq_false_iff_eq, hq]
      clear HE hq
      go_enter Tryd.func12, Tryd.ntmps12
      go_wp2_with fail
      refine (H0.out _ (by (repeat first | with_reducible exact Below.refl _ _ | with_reducible assumption | (with_reducible refine Below.setCell ?_ ?_ _; rotate_left; exact (by first | omega | (simp; done) | (simp; omega))) | (with_reducible refine Below.alloc ?_ ?_ _; rotate_left; exact (by first | omega | (simp; done) | (simp; omega))) | with_reducible refine Below.drew ?_ | with_reducible refine Below_drewN ?_ _))).mono ?_
      rintro e w1 ⟨rfl, hb⟩
      have q9 : w1.cell? ⟨w.heap.size, 9, none⟩ = some (.slice D ld cd) := by rw [hb.cell (p := ⟨w.heap.size, 9, none⟩) (by simp)]; go_simp
      have hs : w.heap.size < w1.heap.size := Nat.lt_of_lt_of_le (by simp) hb.size
      have hB1 : Below w.heap.size w w1 := Below.trans (by (repeat first | with_reducible exact Below.refl _ _ | with_reducible assumption | (with_reducible refine Below.setCell ?_ ?_ _; rotate_left; exact (by first | omega | (simp; done) | (simp; omega))) | (with_reducible refine Below.alloc ?_ ?_ _; rotate_left; exact (by first | omega | (simp; done) | (simp; omega))) | with_reducible refine Below.drew ?_ | with_reducible refine Below_drewN ?_ _)) (hb.mono (by first | omega | ((try simp only [World.size_alloc, World.size_setCell, size_drew, size_drewN]); omega) | (simp; done) | (simp; omega)))
      clear hb
      go_wp2_with fail
      go_loopw [5] (fun i wr => ∃ j : Nat, j ≤ len ∧ i = .int .i64 j ∧ Hid (((zs.drop j).all fun s => vld s.lo s.hi) = G) ∧ Below w.heap.size w wr) (fun i _ => len - (intOf i).toNat)
      case atStart => exact ⟨0, Nat.zero_le _, rfl, HG, by (repeat first | with_reducible exact Below.refl _ _ | with_reducible assumption | (with_reducible refine Below.setCell ?_ ?_ _; rotate_left; exact (by first | omega | (simp; done) | (simp; omega))) | (with_reducible refine Below.alloc ?_ ?_ _; rotate_left; exact (by first | omega | (simp; done) | (simp; omega))) | with_reducible refine Below.drew ?_ | with_reducible refine Below_drewN ?_ _)⟩
      case round =>
        obtain ⟨j, hj, rfl, hG, hB⟩ := hrel
        have sz0 := hB.size
        by_cases hlt : j < len
        · obtain ⟨hzl, hcl⟩ := HI.out.below hB
          obtain ⟨b, o, rfl, hb0, hcl⟩ := hcl (by omega)
          obtain ⟨x, hx⟩ : ∃ x, zs[j]? = some x := ⟨_, List.getElem?_eq_getElem (by omega)⟩
          have x0 : wr.cell? ⟨b, o + j * 2, none⟩ = some (.int .i64 x.lo) := by have h := hcl j x hx 0 _ rfl; simpa using h
          have x1 : wr.cell? ⟨b, o + j * 2 + 1, none⟩ = some (.int .i64 x.hi) := by have h := hcl j x hx 1 _ rfl; simpa using h
          have HS := Lib.hid (hG.out.symm.trans (all_drop (fun s : SpanD => vld s.lo s.hi) hx))
          clear hcl hx hzl hG
          have jc : (0 : Int) ≤ j := by omega
          have jn : ((j : Int)).toNat = j := by omega
          cases hv : vld x.lo x.hi
          · have HF : Hid (false = G) := Lib.hid (by rw [HS.out, hv]; rfl)
            clear HS
            go_wp2_with (go_at_call 36; refine (rvalid_any _ _ _).mono ?_; rintro e w2 ⟨rfl, hb⟩; have hB2 := hB.trans (hb.mono hB.size); have sz2 := hB2.size)
            go_ret
            exact ⟨by rw [← HF.out]; rfl, by (repeat first | with_reducible exact Below.refl _ _ | with_reducible assumption | (with_reducible refine Below.setCell ?_ ?_ _; rotate_left; exact (by first | omega | (simp; done) | (simp; omega))) | (with_reducible refine Below.alloc ?_ ?_ _; rotate_left; exact (by first | omega | (simp; done) | (simp; omega))) | with_reducible refine Below.drew ?_ | with_reducible refine Below_drewN ?_ _)⟩
          · have HN : Hid (((zs.drop (j + 1)).all fun s => vld s.lo s.hi) = G) := Lib.hid (by rw [HS.out, hv]; rfl)
            clear HS
            go_wp2_with (go_at_call 36; refine (rvalid_any _ _ _).mono ?_; rintro e w2 ⟨rfl, hb⟩; have hB2 := hB.trans (hb.mono hB.size); have sz2 := hB2.size)
            go_roundw
            case rel => exact ⟨j + 1, by omega, by go_num, HN, by (repeat first | with_reducible exact Below.refl _ _ | with_reducible assumption | (with_reducible refine Below.setCell ?_ ?_ _; rotate_left; exact (by first | omega | (simp; done) | (simp; omega))) | (with_reducible refine Below.alloc ?_ ?_ _; rotate_left; exact (by first | omega | (simp; done) | (simp; omega))) | with_reducible refine Below.drew ?_ | with_reducible refine Below_drewN ?_ _)⟩
            case measure => simp [intOf]; omega
        · have HN : Hid (true = G) := Lib.hid (by rw [← hG.out, List.drop_of_length_le (by rw [HI.out.1]; omega)]; rfl)
          go_wp2
          go_ret
          exact ⟨by rw [← HN.out]; rfl, hB⟩
    · have HF : Hid (false = G) := Lib.hid (by rw [HE.out, decide_eq_false hq]; rfl)
      have hb1 : ((len : Int) != (ld : Int)) = true := by rw [bne_iff_ne]; omega
      clear HE hq
      go_enter Tryd.func12, Tryd.ntmps12
      go_wp2_with fail
      refine (H0.out _ (by (repeat first | with_reducible exact Below.refl _ _ | with_reducible assumption | (with_reducible refine Below.setCell ?_ ?_ _; rotate_left; exact (by first | omega | (simp; done) | (simp; omega))) | (with_reducible refine Below.alloc ?_ ?_ _; rotate_left; exact (by first | omega | (simp; done) | (simp; omega))) | with_reducible refine Below.drew ?_ | with_reducible refine Below_drewN ?_ _))).mono ?_
      rintro e w1 ⟨rfl, hb⟩
      have q9 : w1.cell? ⟨w.heap.size, 9, none⟩ = some (.slice D ld cd) := by rw [hb.cell (p := ⟨w.heap.size, 9, none⟩) (by simp)]; go_simp
      have hs : w.heap.size < w1.heap.size := Nat.lt_of_lt_of_le (by simp) hb.size
      have hB1 : Below w.heap.size w w1 := Below.trans (by (repeat first | with_reducible exact Below.refl _ _ | with_reducible assumption | (with_reducible refine Below.setCell ?_ ?_ _; rotate_left; exact (by first | omega | (simp; done) | (simp; omega))) | (with_reducible refine Below.alloc ?_ ?_ _; rotate_left; exact (by first | omega | (simp; done) | (simp; omega))) | with_reducible refine Below.drew ?_ | with_reducible refine Below_drewN ?_ _)) (hb.mono (by first | omega | ((try simp only [World.size_alloc, World.size_setCell, size_drew, size_drewN]); omega) | (simp; done) | (simp; omega)))
      clear hb
      go_wp2_with fail
      go_ret
      exact ⟨by rw [← HF.out]; rfl, by (repeat first | with_reducible exact Below.refl _ _ | with_reducible assumption | (with_reducible refine Below.setCell ?_ ?_ _; rotate_left; exact (by first | omega | (simp; done) | (simp; omega))) | (with_reducible refine Below.alloc ?_ ?_ _; rotate_left; exact (by first | omega | (simp; done) | (simp; omega))) | with_reducible refine Below.drew ?_ | with_reducible refine Below_drewN ?_ _)⟩
  · have HF : Hid (false = G) := Lib.hid (by rw [HE.out, decide_eq_false hc]; rfl)
    have hcb : (c != 0) = true := by rw [bne_iff_ne]; exact hc
    clear HE hc
    go_enter Tryd.func12, Tryd.ntmps12
    go_wp2_with fail
    refine (H0.out _ (by (repeat first | with_reducible exact Below.refl _ _ | with_reducible assumption | (with_reducible refine Below.setCell ?_ ?_ _; rotate_left; exact (by first | omega | (simp; done) | (simp; omega))) | (with_reducible refine Below.alloc ?_ ?_ _; rotate_left; exact (by first | omega | (simp; done) | (simp; omega))) | with_reducible refine Below.drew ?_ | with_reducible refine Below_drewN ?_ _))).mono ?_
    rintro e w1 ⟨rfl, hb⟩
    have hs : w.heap.size < w1.heap.size := Nat.lt_of_lt_of_le (by simp) hb.size
    have hB1 : Below w.heap.size w w1 := Below.trans (by (repeat first | with_reducible exact Below.refl _ _ | with_reducible assumption | (with_reducible refine Below.setCell ?_ ?_ _; rotate_left; exact (by first | omega | (simp; done) | (simp; omega))) | (with_reducible refine Below.alloc ?_ ?_ _; rotate_left; exact (by first | omega | (simp; done) | (simp; omega))) | with_reducible refine Below.drew ?_ | with_reducible refine Below_drewN ?_ _)) (hb.mono (by first | omega | ((try simp only [World.size_alloc, World.size_setCell, size_drew, size_drewN]); omega) | (simp; done) | (simp; omega)))
    clear hb
    go_wp2_with fail
    go_ret
    exact ⟨by rw [← HF.out]; rfl, by (repeat first | with_reducible exact Below.refl _ _ | with_reducible assumption | (with_reducible refine Below.setCell ?_ ?_ _; rotate_left; exact (by first | omega | (simp; done) | (simp; omega))) | (with_reducible refine Below.alloc ?_ ?_ _; rotate_left; exact (by first | omega | (simp; done) | (simp; omega))) | with_reducible refine Below.drew ?_ | with_reducible refine Below_drewN ?_ _)⟩

set_option maxRecDepth 100000 in
set_option maxHeartbeats 8000000 in
theorem rvalidFaults_any (R : MachR) (M : MachD) (F : Option Addr) (len cap : Nat) (zs : List FaultD) (w : World) (hM : IsM w R M) (hF : IsT 4 FaultD.cells w F len zs) (hl : len ≤ 1000000000000000) :
    Calls Tryd.prog 10 #[.agg (machCells R M), .slice F len cap] w (Ret (.bool (faultsB M zs)) w) := by
  have HE : Hid (faultsB M zs = (decide (checkC M = 0) && (decide (zs.length ≤ 32) && zs.all (faultB M.sensors.length)))) := Lib.hid rfl
  have hn := hM.sensors.1
  have hz := hF.1
  have hkd := hM.kd
  have H0 := Lib.hid (fun W (hb : Below w.heap.size w W) => rcheck_any R M W (hM.below hb))
  have HI := Lib.hid hF
  rw [hn, hz] at HE
  generalize faultsB M zs = G at *
  generalize checkC M = c at *
  clear hM hF hn hz
  obtain ⟨A, B, C, D, la, ca, lb, cb, lc, cc, ld, cd⟩ := R
  obtain ⟨name, coils, shells, limits, ⟨r, z, nr, nz, step⟩, sensors⟩ := M
  dsimp only at *
  have H0 := Lib.hid (show ∀ W, Below w.heap.size w W → Calls Tryd.prog 31 #[.agg #[.string name, .slice A la ca, .slice B lb cb, .slice C lc cc, .int .i64 r, .int .i64 z, .int .i64 nr, .int .i64 nz, .int .i64 step, .slice D ld cd]] W (Ret (.int .i64 c) W) from H0.out)
  show Calls Tryd.prog 10 #[.agg #[.string name, .slice A la ca, .slice B lb cb, .slice C lc cc, .int .i64 r, .int .i64 z, .int .i64 nr, .int .i64 nz, .int .i64 step, .slice D ld cd], .slice F len cap] w _
  by_cases hc : c = 0
  · subst hc
    by_cases hq : len ≤ 32
    · have HG : Hid ((zs.drop 0).all (faultB ld) = G) := Lib.hid (by rw [HE.out, decide_eq_true hq]; rfl)
      clear HE
      go_enter Tryd.func10, Tryd.ntmps10
      go_wp2_with fail
      refine (H0.out _ (by (repeat first | with_reducible exact Below.refl _ _ | with_reducible assumption | (with_reducible refine Below.setCell ?_ ?_ _; rotate_left; exact (by first | omega | (simp; done) | (simp; omega))) | (with_reducible refine Below.alloc ?_ ?_ _; rotate_left; exact (by first | omega | (simp; done) | (simp; omega))) | with_reducible refine Below.drew ?_ | with_reducible refine Below_drewN ?_ _))).mono ?_
      rintro e w1 ⟨rfl, hb⟩
      have q9 : w1.cell? ⟨w.heap.size, 9, none⟩ = some (.slice D ld cd) := by rw [hb.cell (p := ⟨w.heap.size, 9, none⟩) (by simp)]; go_simp
      have hs : w.heap.size < w1.heap.size := Nat.lt_of_lt_of_le (by simp) hb.size
      have hB1 : Below w.heap.size w w1 := Below.trans (by (repeat first | with_reducible exact Below.refl _ _ | with_reducible assumption | (with_reducible refine Below.setCell ?_ ?_ _; rotate_left; exact (by first | omega | (simp; done) | (simp; omega))) | (with_reducible refine Below.alloc ?_ ?_ _; rotate_left; exact (by first | omega | (simp; done) | (simp; omega))) | with_reducible refine Below.drew ?_ | with_reducible refine Below_drewN ?_ _)) (hb.mono (by first | omega | ((try simp only [World.size_alloc, World.size_setCell, size_drew, size_drewN]); omega) | (simp; done) | (simp; omega)))
      clear hb
      go_wp2_with fail
      go_loopw [5] (fun i wr => ∃ j : Nat, j ≤ len ∧ i = .int .i64 j ∧ Hid ((zs.drop j).all (faultB ld) = G) ∧ wr.cell? ⟨w.heap.size, 9, none⟩ = some (.slice D ld cd) ∧ w.heap.size < wr.heap.size ∧ Below w.heap.size w wr) (fun i _ => len - (intOf i).toNat)
      case atStart => exact ⟨0, Nat.zero_le _, rfl, HG, q9, hs, by (repeat first | with_reducible exact Below.refl _ _ | with_reducible assumption | (with_reducible refine Below.setCell ?_ ?_ _; rotate_left; exact (by first | omega | (simp; done) | (simp; omega))) | (with_reducible refine Below.alloc ?_ ?_ _; rotate_left; exact (by first | omega | (simp; done) | (simp; omega))) | with_reducible refine Below.drew ?_ | with_reducible refine Below_drewN ?_ _)⟩
      case round =>
        obtain ⟨j, hj, rfl, hG, q9, hsq, hB⟩ := hrel
        have sz0 := hB.size
        by_cases hlt : j < len
        · obtain ⟨hzl, hcl⟩ := HI.out.below hB
          obtain ⟨b, o, rfl, hb0, hcl⟩ := hcl (by omega)
          obtain ⟨x, hx⟩ : ∃ x, zs[j]? = some x := ⟨_, List.getElem?_eq_getElem (by omega)⟩
          have x0 : wr.cell? ⟨b, o + j * 4, none⟩ = some (.int .i64 x.at_) := by have h := hcl j x hx 0 _ rfl; simpa using h
          have x1 : wr.cell? ⟨b, o + j * 4 + 1, none⟩ = some (.int .i64 x.sensor) := by have h := hcl j x hx 1 _ rfl; simpa using h
          have x2 : wr.cell? ⟨b, o + j * 4 + 2, none⟩ = some (.int .i64 x.kind) := by have h := hcl j x hx 2 _ rfl; simpa using h
          have x3 : wr.cell? ⟨b, o + j * 4 + 3, none⟩ = some (.int .i64 x.n) := by have h := hcl j x hx 3 _ rfl; simpa using h
          have HS := Lib.hid (hG.out.symm.trans (all_drop (faultB ld) hx))
          have HV := Lib.hid (fun W => rvalidFault_any (ld : Int) x W (by omega) (by omega))
          clear hcl hx hzl hG
          have jc : (0 : Int) ≤ j := by omega
          have jn : ((j : Int)).toNat = j := by omega
          generalize faultB (ld : Int) x = fb at *
          obtain ⟨fa, fs, fk, fm⟩ := x
          dsimp only at x0 x1 x2 x3
          have HV := Lib.hid (show ∀ W, Calls Tryd.prog 32 #[.int .i64 ld, .agg #[.int .i64 fa, .int .i64 fs, .int .i64 fk, .int .i64 fm]] W (Ret (.bool fb) W) from HV.out)
          go_wp2_with fail
          go_cut [28] (fun s wx => s = .bool (!fb) ∧ Below w.heap.size w wx ∧ wx.cell? ⟨w.heap.size, 9, none⟩ = some (.slice D ld cd) ∧ w.heap.size < wx.heap.size)
          case first =>
            have HS : Hid (∀ w' : World, Reg (wr.heap.size) (wr) w' → (Reg (wr.heap.size) (wr) w' ∧ w'.cell? ⟨w.heap.size, 9, none⟩ = some (.slice D ld cd) ∧ w'.cell? ⟨b, o + j * 4, none⟩ = some (.int .i64 fa) ∧ w'.cell? ⟨b, o + j * 4 + 1, none⟩ = some (.int .i64 fs) ∧ w'.cell? ⟨b, o + j * 4 + 2, none⟩ = some (.int .i64 fk) ∧ w'.cell? ⟨b, o + j * 4 + 3, none⟩ = some (.int .i64 fm))) := (fun w' h => by (have hc := h.cells; have hs := h.some; have hf := h.frozen; refine ⟨h, ?_⟩; (try simp only [World.size_alloc, World.size_setCell, size_drew, size_drewN] at hc hs hf); first | (simp (disch := omega) only [hc, hs, hf, cur_iff]; (try go_simp); done) | (simp (disch := first | omega | (simp; done)) only [hc, hs, hf, cur_iff]; (try go_simp); done) | (simp (maxDischargeDepth := 4) [hc, hs, hf, cur_iff, go_sem]; done) | (go_simp; done) | (simp (maxDischargeDepth := 4) [hc, hs, hf, cur_iff, go_sem]; go_simp))); go_region_held3 (fun w' => Reg (wr.heap.size) (wr) w' ∧ w'.cell? ⟨w.heap.size, 9, none⟩ = some (.slice D ld cd) ∧ w'.cell? ⟨b, o + j * 4, none⟩ = some (.int .i64 fa) ∧ w'.cell? ⟨b, o + j * 4 + 1, none⟩ = some (.int .i64 fs) ∧ w'.cell? ⟨b, o + j * 4 + 2, none⟩ = some (.int .i64 fk) ∧ w'.cell? ⟨b, o + j * 4 + 3, none⟩ = some (.int .i64 fm)) (exact HS.out _ (by (repeat first | with_reducible exact Reg.refl _ _ | with_reducible exact Reg.drewN2 _ _ _ _ | with_reducible exact (‹Reg _ _ _ ∧ _›).1 | (with_reducible refine Reg.setCell ?_ ?_ _; rotate_left; exact (by first | omega | ((try simp only [World.size_alloc, World.size_setCell, size_drew, size_drewN]); omega) | (simp; done) | (simp; omega))) | with_reducible refine Reg.alloc ?_ _ | with_reducible refine Reg.drew ?_ | with_reducible refine Reg.drewN ?_ _ | (with_reducible apply Reg.call; rotate_left; with_reducible assumption)))) (first | (go_at_call 32; refine (HV.out _).mono ?_; rintro e w2 ⟨rfl, hb⟩; (first | (with_reducible have hk := Nat.lt_of_lt_of_le (size_alloc_lt _ _) hb.size) | (with_reducible have hk := Nat.lt_of_lt_of_le (size_alloc_drew_lt _ _) hb.size) | (with_reducible have hk := Nat.lt_of_lt_of_le hk hb.size) | skip); (try simp only [World.size_alloc, World.size_setCell, size_drew, size_drewN] at hk); obtain ⟨hc, hf⟩ := bcell hb; have hs := hb.size; (try simp only [World.size_alloc, World.size_setCell, size_drew, size_drewN] at hs)))
            all_goals go_wp2_with fail
            all_goals go_meet
            all_goals obtain ⟨hr0, hr1, -⟩ := (‹Reg _ _ _ ∧ _ ∧ _›)
            all_goals exact ⟨rfl, Reg.out hr0 (by (repeat first | with_reducible exact Below.refl _ _ | with_reducible assumption | (with_reducible refine Below.setCell ?_ ?_ _; rotate_left; exact (by first | omega | (simp; done) | (simp; omega))) | (with_reducible refine Below.alloc ?_ ?_ _; rotate_left; exact (by first | omega | (simp; done) | (simp; omega))) | with_reducible refine Below.drew ?_ | with_reducible refine Below_drewN ?_ _)) (by first | omega | (simp; done) | (simp; omega)), hr1, Nat.lt_of_lt_of_le hsq hr0.size⟩
          case rest =>
            obtain ⟨rfl, hB2, q9', hsq2⟩ := hcut
            have sz2 := hB2.size
            cases fb
            · have HF : Hid (false = G) := Lib.hid (by rw [HS.out]; rfl)
              clear HS
              go_wp2_with fail
              go_ret
              exact ⟨by rw [← HF.out]; rfl, by (repeat first | with_reducible exact Below.refl _ _ | with_reducible assumption | (with_reducible refine Below.setCell ?_ ?_ _; rotate_left; exact (by first | omega | (simp; done) | (simp; omega))) | (with_reducible refine Below.alloc ?_ ?_ _; rotate_left; exact (by first | omega | (simp; done) | (simp; omega))) | with_reducible refine Below.drew ?_ | with_reducible refine Below_drewN ?_ _)⟩
            · have HN : Hid ((zs.drop (j + 1)).all (faultB ld) = G) := Lib.hid (by rw [HS.out]; rfl)
              clear HS
              go_wp2_with fail
              go_roundw
              case rel => exact ⟨j + 1, by omega, by go_num, HN, q9', hsq2, hB2⟩
              case measure => simp [intOf]; omega
        · have HN : Hid (true = G) := Lib.hid (by rw [← hG.out, List.drop_of_length_le (by rw [HI.out.1]; omega)]; rfl)
          go_wp2
          go_ret
          exact ⟨by rw [← HN.out]; rfl, hB⟩
    · have HF : Hid (false = G) := Lib.hid (by rw [HE.out, decide_eq_false hq]; rfl)
      clear HE
      go_enter Tryd.func10, Tryd.ntmps10
      go_wp2_with fail
      refine (H0.out _ (by (repeat first | with_reducible exact Below.refl _ _ | with_reducible assumption | (with_reducible refine Below.setCell ?_ ?_ _; rotate_left; exact (by first | omega | (simp; done) | (simp; omega))) | (with_reducible refine Below.alloc ?_ ?_ _; rotate_left; exact (by first | omega | (simp; done) | (simp; omega))) | with_reducible refine Below.drew ?_ | with_reducible refine Below_drewN ?_ _))).mono ?_
      rintro e w1 ⟨rfl, hb⟩
      have hs : w.heap.size < w1.heap.size := Nat.lt_of_lt_of_le (by simp) hb.size
      have hB1 : Below w.heap.size w w1 := Below.trans (by (repeat first | with_reducible exact Below.refl _ _ | with_reducible assumption | (with_reducible refine Below.setCell ?_ ?_ _; rotate_left; exact (by first | omega | (simp; done) | (simp; omega))) | (with_reducible refine Below.alloc ?_ ?_ _; rotate_left; exact (by first | omega | (simp; done) | (simp; omega))) | with_reducible refine Below.drew ?_ | with_reducible refine Below_drewN ?_ _)) (hb.mono (by first | omega | ((try simp only [World.size_alloc, World.size_setCell, size_drew, size_drewN]); omega) | (simp; done) | (simp; omega)))
      clear hb
      go_wp2_with fail
      go_ret
      exact ⟨by rw [← HF.out]; rfl, by (repeat first | with_reducible exact Below.refl _ _ | with_reducible assumption | (with_reducible refine Below.setCell ?_ ?_ _; rotate_left; exact (by first | omega | (simp; done) | (simp; omega))) | (with_reducible refine Below.alloc ?_ ?_ _; rotate_left; exact (by first | omega | (simp; done) | (simp; omega))) | with_reducible refine Below.drew ?_ | with_reducible refine Below_drewN ?_ _)⟩
  · have HF : Hid (false = G) := Lib.hid (by rw [HE.out, decide_eq_false hc]; rfl)
    have hcb : (c != 0) = true := by rw [bne_iff_ne]; exact hc
    clear HE hc
    go_enter Tryd.func10, Tryd.ntmps10
    go_wp2_with fail
    refine (H0.out _ (by (repeat first | with_reducible exact Below.refl _ _ | with_reducible assumption | (with_reducible refine Below.setCell ?_ ?_ _; rotate_left; exact (by first | omega | (simp; done) | (simp; omega))) | (with_reducible refine Below.alloc ?_ ?_ _; rotate_left; exact (by first | omega | (simp; done) | (simp; omega))) | with_reducible refine Below.drew ?_ | with_reducible refine Below_drewN ?_ _))).mono ?_
    rintro e w1 ⟨rfl, hb⟩
    have hs : w.heap.size < w1.heap.size := Nat.lt_of_lt_of_le (by simp) hb.size
    have hB1 : Below w.heap.size w w1 := Below.trans (by (repeat first | with_reducible exact Below.refl _ _ | with_reducible assumption | (with_reducible refine Below.setCell ?_ ?_ _; rotate_left; exact (by first | omega | (simp; done) | (simp; omega))) | (with_reducible refine Below.alloc ?_ ?_ _; rotate_left; exact (by first | omega | (simp; done) | (simp; omega))) | with_reducible refine Below.drew ?_ | with_reducible refine Below_drewN ?_ _)) (hb.mono (by first | omega | ((try simp only [World.size_alloc, World.size_setCell, size_drew, size_drewN]); omega) | (simp; done) | (simp; omega)))
    clear hb
    go_wp2_with fail
    go_ret
    exact ⟨by rw [← HF.out]; rfl, by (repeat first | with_reducible exact Below.refl _ _ | with_reducible assumption | (with_reducible refine Below.setCell ?_ ?_ _; rotate_left; exact (by first | omega | (simp; done) | (simp; omega))) | (with_reducible refine Below.alloc ?_ ?_ _; rotate_left; exact (by first | omega | (simp; done) | (simp; omega))) | with_reducible refine Below.drew ?_ | with_reducible refine Below_drewN ?_ _)⟩

end Go.Proofs.YtjikhpdchockcaaDoor
end
