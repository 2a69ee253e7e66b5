import Derived.Test.YtjikhpdchockcaaDoorJAM
import Derived.Test.YtjikhpdchockcaaDoorJAN
import Derived.Test.YtjikhpdchockcaaDoorJBB
section
/- The law SenseGains: its walk, over this seat's translation. -/
namespace Go.Proofs.YtjikhpdchockcaaDoor
set_option linter.unusedVariables false
set_option linter.unusedSimpArgs false
open Go.RowKit Go.Shelf

set_option maxRecDepth 100000 in
set_option maxHeartbeats 8000000 in
theorem gains_walk (A : Option Addr) (len cap : Nat) (zs : List Tri) (w : World) (hI : IsT 3 pairCells w A len zs) (hcap : len ≤ cap) (hmax : cap ≤ 9223372036854775807) :
    Calls Tryd.prog 6 #[.slice A len cap] w (Ret (.bool true) w) := by
  by_cases hl : 200 < len
  · clear hI hmax
    go_enter Tryd.func6, Tryd.ntmps6
    go_wp2_with (go_at_call 8; refine (awake_any _).mono ?_; rintro e w1 ⟨rfl, hb⟩; have hB : Below w.heap.size w w1 := Below.trans (by (repeat first | with_reducible exact Below.refl _ _ | with_reducible assumption | (with_reducible refine Below.setCell ?_ ?_ _; rotate_left; exact (by first | omega | (simp; done) | (simp; omega))) | (with_reducible refine Below.alloc ?_ ?_ _; rotate_left; exact (by first | omega | (simp; done) | (simp; omega))) | with_reducible refine Below.drew ?_ | with_reducible refine Below_drewN ?_ _)) (hb.mono (by first | omega | (simp; done) | (simp; omega))); obtain ⟨hc, hf⟩ := bcell hb; have hs := hb.size; clear hb; (try simp only [World.size_alloc, World.size_setCell] at hc hf); (try simp only [World.size_alloc, World.size_setCell] at hs); (try have hs' := Nat.lt_of_succ_le hs); (try have hs0 : w.heap.size < w1.heap.size := by omega); (try have hs1 : w.heap.size + 1 < w1.heap.size := by omega); (try have hs2 : w.heap.size + 1 + 1 < w1.heap.size := by omega); (try have hs3 : w.heap.size + 1 + 1 + 1 < w1.heap.size := by omega))
    go_ret
    exact ⟨rfl, by (repeat first | with_reducible exact Below.refl _ _ | with_reducible assumption | (with_reducible refine Below.setCell ?_ ?_ _; rotate_left; exact (by first | omega | (simp; done) | (simp; omega))) | (with_reducible refine Below.alloc ?_ ?_ _; rotate_left; exact (by first | omega | (simp; done) | (simp; omega))) | with_reducible refine Below.drew ?_ | with_reducible refine Below_drewN ?_ _)⟩
  have HC1 := Lib.hid (fun W (hb : Below w.heap.size w W) => calibrate_any A len cap zs W (hI.below hb) (by omega))
  have HC2 := Lib.hid (fun W (hb : Below w.heap.size w W) => rcalibrate_any A len cap zs W (hI.below hb) (by omega))
  have HB1 := Lib.hid (fun W (hb : Below w.heap.size w W) => broken_any A len cap zs W (hI.below hb) (by omega))
  have HB2 := Lib.hid (fun W (hb : Below w.heap.size w W) => rbroken_any A len cap zs W (hI.below hb) (by omega) hcap hmax)
  generalize calL zs = C at *
  generalize brokL zs = B at *
  obtain ⟨c1, c2, c3⟩ := C
  dsimp only at HC1 HC2
  have HI := Lib.hid hI
  clear hI hmax
  go_enter Tryd.func6, Tryd.ntmps6
  go_wp2_with fail
  go_loopw [3, 4, 5, 6, 7] (fun i _ _ _ _ wr => ∃ j : Nat, j ≤ len ∧ i = .int .i64 j ∧ Below w.heap.size w wr) (fun i _ _ _ _ _ => len - (intOf i).toNat)
  case atStart => exact ⟨0, Nat.zero_le _, rfl, Below.refl _ _⟩
  case round =>
    obtain ⟨j, hj, rfl, hB⟩ := hrel
    have sz0 := hB.size
    by_cases hlt : j < len
    · obtain ⟨hzl, hcl⟩ := HI.out.below hB
      obtain ⟨b, o, rfl, hb0, hcl⟩ := hcl (by omega)
      obtain ⟨x, hx⟩ : ∃ x, zs[j]? = some x := ⟨_, List.getElem?_eq_getElem (by omega)⟩
      have x0 : wr.cell? ⟨b, o + j * 3, none⟩ = some (.int .i64 x.1) := by have h := hcl j x hx 0 _ rfl; simpa using h
      have x1 : wr.cell? ⟨b, o + j * 3 + 1, none⟩ = some (.int .i64 x.2.1) := by have h := hcl j x hx 1 _ rfl; simpa using h
      have x2 : wr.cell? ⟨b, o + j * 3 + 2, none⟩ = some (.int .i64 x.2.2) := by have h := hcl j x hx 2 _ rfl; simpa using h
      clear hcl hx hzl
      have jc : (0 : Int) ≤ j := by omega
      have jn : ((j : Int)).toNat = j := by omega
      obtain ⟨v, lo, hi⟩ := x
      dsimp only at x0 x1 x2
      have HG1 := Lib.hid (fun W => gain_any v lo hi W)
      have HG2 := Lib.hid (fun W => rgain_any v lo hi W)
      generalize gainL (v, lo, hi) = g at *
      obtain ⟨g1, g2, g3⟩ := g
      dsimp only at HG1 HG2
      have HG1 := Lib.hid (show ∀ W, Calls Tryd.prog 20 #[.agg #[.int .i64 v, .int .i64 lo, .int .i64 hi]] W (Ret (.tuple #[.agg #[.int .i64 g1, .int .i64 g2], .int .i64 g3]) W) from HG1.out)
      have HG2 := Lib.hid (show ∀ W, Calls Tryd.prog 21 #[.agg #[.int .i64 v, .int .i64 lo, .int .i64 hi]] W (Ret (.tuple #[.agg #[.int .i64 g1, .int .i64 g2], .int .i64 g3]) W) from HG2.out)
      go_wp2_with fail
      refine (HG1.out _).mono ?_
      rintro e w1 ⟨rfl, hb⟩
      have y0 := (hb.cell (p := ⟨b, o + j * 3, none⟩) hb0).trans x0
      have y1 := (hb.cell (p := ⟨b, o + j * 3 + 1, none⟩) hb0).trans x1
      have y2 := (hb.cell (p := ⟨b, o + j * 3 + 2, none⟩) hb0).trans x2
      have hb1 := Nat.lt_of_lt_of_le hb0 hb.size
      have hB1 := hB.trans (hb.mono hB.size)
      have sz1 := hB1.size
      clear hb x0 x1 x2
      go_wp2_with fail
      refine (HG2.out _).mono ?_
      rintro e w2 ⟨rfl, hb⟩
      have z0 : w2.cell? ⟨w1.heap.size, 0, none⟩ = some (.int .i64 g1) := by rw [hb.cell (p := ⟨w1.heap.size, 0, none⟩) (by first | omega | ((try simp only [World.size_alloc, World.size_setCell, size_drew, size_drewN]); omega) | (simp; done) | (simp; omega))]; go_simp
      have z1 : w2.cell? ⟨w1.heap.size, 1, none⟩ = some (.int .i64 g2) := by rw [hb.cell (p := ⟨w1.heap.size, 1, none⟩) (by first | omega | ((try simp only [World.size_alloc, World.size_setCell, size_drew, size_drewN]); omega) | (simp; done) | (simp; omega))]; go_simp
      have hs2 : w1.heap.size < w2.heap.size := Nat.lt_of_lt_of_le (by simp) hb.size
      have hB2 : Below w.heap.size w w2 := Below.trans (by (repeat first | with_reducible exact Below.refl _ _ | with_reducible assumption | (with_reducible refine Below.setCell ?_ ?_ _; rotate_left; exact (by first | omega | (simp; done) | (simp; omega))) | (with_reducible refine Below.alloc ?_ ?_ _; rotate_left; exact (by first | omega | (simp; done) | (simp; omega))) | with_reducible refine Below.drew ?_ | with_reducible refine Below_drewN ?_ _)) (hb.mono (by first | omega | ((try simp only [World.size_alloc, World.size_setCell, size_drew, size_drewN]); omega) | (simp; done) | (simp; omega)))
      have sz2 := hB2.size
      clear hb y0 y1 y2
      go_wp2_with fail
      go_roundw
      case rel => exact ⟨j + 1, by omega, by go_num, by (repeat first | with_reducible exact Below.refl _ _ | with_reducible assumption | (with_reducible refine Below.setCell ?_ ?_ _; rotate_left; exact (by first | omega | (simp; done) | (simp; omega))) | (with_reducible refine Below.alloc ?_ ?_ _; rotate_left; exact (by first | omega | (simp; done) | (simp; omega))) | with_reducible refine Below.drew ?_ | with_reducible refine Below_drewN ?_ _)⟩
      case measure => simp [intOf]; omega
    · clear HI
      go_wp2_with fail
      refine (HC1.out _ (by (repeat first | with_reducible exact Below.refl _ _ | with_reducible assumption | (with_reducible refine Below.setCell ?_ ?_ _; rotate_left; exact (by first | omega | (simp; done) | (simp; omega))) | (with_reducible refine Below.alloc ?_ ?_ _; rotate_left; exact (by first | omega | (simp; done) | (simp; omega))) | with_reducible refine Below.drew ?_ | with_reducible refine Below_drewN ?_ _))).mono ?_
      rintro e w1 ⟨rfl, hb⟩
      have hB1 := hB.trans (hb.mono hB.size)
      have sz1 := hB1.size
      clear hb
      go_wp2_with fail
      refine (HC2.out _ (by (repeat first | with_reducible exact Below.refl _ _ | with_reducible assumption | (with_reducible refine Below.setCell ?_ ?_ _; rotate_left; exact (by first | omega | (simp; done) | (simp; omega))) | (with_reducible refine Below.alloc ?_ ?_ _; rotate_left; exact (by first | omega | (simp; done) | (simp; omega))) | with_reducible refine Below.drew ?_ | with_reducible refine Below_drewN ?_ _))).mono ?_
      rintro e w2 ⟨rfl, hb⟩
      have z0 : w2.cell? ⟨w1.heap.size, 0, none⟩ = some (.int .i64 c1) := by rw [hb.cell (p := ⟨w1.heap.size, 0, none⟩) (by first | omega | ((try simp only [World.size_alloc, World.size_setCell, size_drew, size_drewN]); omega) | (simp; done) | (simp; omega))]; go_simp
      have z1 : w2.cell? ⟨w1.heap.size, 1, none⟩ = some (.int .i64 c2) := by rw [hb.cell (p := ⟨w1.heap.size, 1, none⟩) (by first | omega | ((try simp only [World.size_alloc, World.size_setCell, size_drew, size_drewN]); omega) | (simp; done) | (simp; omega))]; go_simp
      have hs2 : w1.heap.size < w2.heap.size := Nat.lt_of_lt_of_le (by simp) hb.size
      have hB2 : Below w.heap.size w w2 := Below.trans (by (repeat first | with_reducible exact Below.refl _ _ | with_reducible assumption | (with_reducible refine Below.setCell ?_ ?_ _; rotate_left; exact (by first | omega | (simp; done) | (simp; omega))) | (with_reducible refine Below.alloc ?_ ?_ _; rotate_left; exact (by first | omega | (simp; done) | (simp; omega))) | with_reducible refine Below.drew ?_ | with_reducible refine Below_drewN ?_ _)) (hb.mono (by first | omega | ((try simp only [World.size_alloc, World.size_setCell, size_drew, size_drewN]); omega) | (simp; done) | (simp; omega)))
      have sz2 := hB2.size
      clear hb
      go_wp2_with fail
      refine (HB1.out _ (by (repeat first | with_reducible exact Below.refl _ _ | with_reducible assumption | (with_reducible refine Below.setCell ?_ ?_ _; rotate_left; exact (by first | omega | (simp; done) | (simp; omega))) | (with_reducible refine Below.alloc ?_ ?_ _; rotate_left; exact (by first | omega | (simp; done) | (simp; omega))) | with_reducible refine Below.drew ?_ | with_reducible refine Below_drewN ?_ _))).mono ?_
      rintro e w3 ⟨rfl, hb⟩
      have hB3 : Below w.heap.size w w3 := Below.trans (by (repeat first | with_reducible exact Below.refl _ _ | with_reducible assumption | (with_reducible refine Below.setCell ?_ ?_ _; rotate_left; exact (by first | omega | (simp; done) | (simp; omega))) | (with_reducible refine Below.alloc ?_ ?_ _; rotate_left; exact (by first | omega | (simp; done) | (simp; omega))) | with_reducible refine Below.drew ?_ | with_reducible refine Below_drewN ?_ _)) (hb.mono (by first | omega | ((try simp only [World.size_alloc, World.size_setCell, size_drew, size_drewN]); omega) | (simp; done) | (simp; omega)))
      have sz3 := hB3.size
      clear hb
      go_wp2_with fail
      refine (HB2.out _ (by (repeat first | with_reducible exact Below.refl _ _ | with_reducible assumption | (with_reducible refine Below.setCell ?_ ?_ _; rotate_left; exact (by first | omega | (simp; done) | (simp; omega))) | (with_reducible refine Below.alloc ?_ ?_ _; rotate_left; exact (by first | omega | (simp; done) | (simp; omega))) | with_reducible refine Below.drew ?_ | with_reducible refine Below_drewN ?_ _))).mono ?_
      rintro e w4 ⟨rfl, hb⟩
      have hB4 : Below w.heap.size w w4 := hB3.trans (hb.mono hB3.size)
      have sz4 := hB4.size
      clear hb
      go_wp2_with fail
      refine (awake_any _).mono ?_
      rintro e w5 ⟨rfl, hb⟩
      have hB5 : Below w.heap.size w w5 := hB4.trans (hb.mono hB4.size)
      have sz5 := hB5.size
      clear hb
      go_wp2_with fail
      go_ret
      exact ⟨rfl, by (repeat first | with_reducible exact Below.refl _ _ | with_reducible assumption | (with_reducible refine Below.setCell ?_ ?_ _; rotate_left; exact (by first | omega | (simp; done) | (simp; omega))) | (with_reducible refine Below.alloc ?_ ?_ _; rotate_left; exact (by first | omega | (simp; done) | (simp; omega))) | with_reducible refine Below.drew ?_ | with_reducible refine Below_drewN ?_ _)⟩

end Go.Proofs.YtjikhpdchockcaaDoor
end
