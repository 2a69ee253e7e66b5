import Derived.Test.YtfpjhobhmcfpnabDoorJAZ
import Derived.Test.YtfpjhobhmcfpnabDoorJBA
import Derived.Deep.QuietTactic
import Derived.BigQuiet
import Derived.StillTailTactics
section
/- The law SenseNarrower: its walk, over this seat's translation (written by mk_nrl.py). -/
namespace Go.Proofs.YtfpjhobhmcfpnabDoor
set_option linter.unusedVariables false
set_option linter.unusedSimpArgs false
open Go.RowKit Go.Shelf

theorem RowL.belowB {b B : Nat} {vs : List Value} {W W' : World} (h : RowL b vs W) (hb : b < B) (hW : Below B W W') : RowL b vs W' :=
  ⟨Nat.lt_of_lt_of_le h.lt hW.size, fun j v hv => (World.cell?_of_block (w := W) (a := ⟨b, j, none⟩) (hW.block b hb)).trans (h.cell j v hv), fun j hj => (World.frozen?_of_block (w := W) (a := ⟨b, j, none⟩) (hW.block b hb)).trans (h.mark j hj)⟩
theorem own_setK {w : World} {B k n : Nat} {e : TypeId} {v : Value} {xs : List Value} (h : w.ownsRow B e k v n xs) {p : Addr} (hp : p.block < B) (u : Value) : (w.setCell p u).ownsRow B e k v n xs := by
  refine ⟨h.1, ?_⟩
  rcases h.2 with h0 | ⟨g, cap, cur, h1, h2, h3, h4⟩
  · exact .inl h0
  · exact .inr ⟨g, cap, cur, h1, h2, (Below.heap_setCell _ _ _ _ (by omega)).trans h3, h4⟩
theorem any_snoc {α : Type} {l : List α} {k : Nat} {x : α} (p : α → Bool) (h : l[k]? = some x) : (l.take (k + 1)).any p = ((l.take k).any p || p x) := by
  rw [take_snoc h, List.any_append]; simp
/-- A candidate lies in another one. -/
def inB3 (x y : Int × Int × Int) : Bool := decide (y.1 = x.1) && (decide (y.2.1 ≤ x.2.1) && decide (x.2.2 ≤ y.2.2))

set_option maxRecDepth 100000 in
set_option maxHeartbeats 8000000 in
theorem light_any (name : ByteArray) (A B Cl D A1 B1 C1 F : Option Addr) (la ca lb cb lc cl ld cd na qa nb qb nc qc nf cf : Nat) (r z nr nz step : Int) (w : World) :
    Calls Tryd.prog 4 #[.agg #[.string name, .slice A la ca, .slice B lb cb, .slice Cl lc cl, .int .i64 r, .int .i64 z, .int .i64 nr, .int .i64 nz, .int .i64 step, .slice D ld cd, .slice A1 na qa, .slice B1 nb qb, .slice C1 nc qc, .slice F nf cf]] w (Ret (.bool (briefB la lb lc ld na nb nc nf)) w) := by
  have HB := Lib.hid (fun W => brief_any name A B Cl D la ca lb cb lc cl ld cd r z nr nz step A1 B1 C1 F na qa nb qb nc qc nf cf W)
  generalize briefB la lb lc ld na nb nc nf = G at *
  go_enter Tryd.func4, Tryd.ntmps4
  go_upto_region 1 with (fail)
  have Fx : Hid (RowL (w.heap.size) [.string name, .slice A la ca, .slice B lb cb, .slice Cl lc cl, .int .i64 r, .int .i64 z, .int .i64 nr, .int .i64 nz, .int .i64 step, .slice D ld cd, .slice A1 na qa, .slice B1 nb qb, .slice C1 nc qc, .slice F nf cf] (w.alloc (.cells #[.string name, .slice A la ca, .slice B lb cb, .slice Cl lc cl, .int .i64 r, .int .i64 z, .int .i64 nr, .int .i64 nz, .int .i64 step, .slice D ld cd, .slice A1 na qa, .slice B1 nb qb, .slice C1 nc qc, .slice F nf cf] 35))) := Lib.hid (by have h := RowL.new w #[.string name, .slice A la ca, .slice B lb cb, .slice Cl lc cl, .int .i64 r, .int .i64 z, .int .i64 nr, .int .i64 nz, .int .i64 step, .slice D ld cd, .slice A1 na qa, .slice B1 nb qb, .slice C1 nc qc, .slice F nf cf] 35; (try simp only [World.size_alloc] at h); exact h)
  have hB0 : Below w.heap.size w (w.alloc (.cells #[.string name, .slice A la ca, .slice B lb cb, .slice Cl lc cl, .int .i64 r, .int .i64 z, .int .i64 nr, .int .i64 nz, .int .i64 step, .slice D ld cd, .slice A1 na qa, .slice B1 nb qb, .slice C1 nc qc, .slice F nf cf] 35)) := by (with_reducible repeat first | exact Below.refl _ _ | assumption | ((first | refine Below.setCell ?_ ?_ _ | refine Below.alloc ?_ ?_ _); rotate_left; exact (by first | omega | (simp; done) | (simp; omega))) | refine Below.drew ?_ | refine Below_drewN ?_ _)
  have sW0 : w.heap.size < (w.alloc (.cells #[.string name, .slice A la ca, .slice B lb cb, .slice Cl lc cl, .int .i64 r, .int .i64 z, .int .i64 nr, .int .i64 nz, .int .i64 step, .slice D ld cd, .slice A1 na qa, .slice B1 nb qb, .slice C1 nc qc, .slice F nf cf] 35)).heap.size := by simp only [World.size_alloc]; omega
  obtain ⟨W0, hW0⟩ : ∃ W, (w.alloc (.cells #[.string name, .slice A la ca, .slice B lb cb, .slice Cl lc cl, .int .i64 r, .int .i64 z, .int .i64 nr, .int .i64 nz, .int .i64 step, .slice D ld cd, .slice A1 na qa, .slice B1 nb qb, .slice C1 nc qc, .slice F nf cf] 35)) = W := ⟨_, rfl⟩
  rw [hW0] at Fx hB0 sW0 ⊢
  clear hW0
  have x0 := Fx.out.cell 0 (.string name) rfl
  have x1 := Fx.out.cell 1 (.slice A la ca) rfl
  have x2 := Fx.out.cell 2 (.slice B lb cb) rfl
  have x3 := Fx.out.cell 3 (.slice Cl lc cl) rfl
  have x4 := Fx.out.cell 4 (.int .i64 r) rfl
  have x5 := Fx.out.cell 5 (.int .i64 z) rfl
  have x6 := Fx.out.cell 6 (.int .i64 nr) rfl
  have x7 := Fx.out.cell 7 (.int .i64 nz) rfl
  have x8 := Fx.out.cell 8 (.int .i64 step) rfl
  have x9 := Fx.out.cell 9 (.slice D ld cd) rfl
  have x10 := Fx.out.cell 10 (.slice A1 na qa) rfl
  have x11 := Fx.out.cell 11 (.slice B1 nb qb) rfl
  have x12 := Fx.out.cell 12 (.slice C1 nc qc) rfl
  have x13 := Fx.out.cell 13 (.slice F nf cf) rfl
  go_wp2_with fail
  refine (HB.out _).mono ?_
  rintro e w1 ⟨rfl, hb⟩
  have hB1 := hB0.trans (hb.mono hB0.size)
  clear hb
  go_wp2_with fail
  go_ret
  exact ⟨rfl, by (with_reducible repeat first | exact Below.refl _ _ | assumption | ((first | refine Below.setCell ?_ ?_ _ | refine Below.alloc ?_ ?_ _); rotate_left; exact (by first | omega | (simp; done) | (simp; omega))) | refine Below.drew ?_ | refine Below_drewN ?_ _)⟩

set_option maxRecDepth 100000 in
set_option maxHeartbeats 16000000 in
theorem narrower_walk (R : MachR) (M : MachD) (Qr : CurR) (Cd : CurD) (F P : Option Addr) (nf cf np cp : Nat) (zs : List SpanD) (bs : List Int) (w : World)
    (hM : R.la ≤ 1000000000000000 → R.lb ≤ 1000000000000000 → R.lc ≤ 1000000000000000 → R.ld ≤ 1000000000000000 → IsM w R M) (hC : Qr.la ≤ 1000000000000000 → Qr.lb ≤ 1000000000000000 → Qr.lc ≤ 1000000000000000 → IsC w Qr Cd) (hF : IsT 2 SpanD.cells w F nf zs) (hP : IsT 1 intCells w P np bs) (hnp : np ≤ maxLen) :
    Calls Tryd.prog 3 #[.agg (machCells R M ++ #[.slice Qr.A Qr.la Qr.ca, .slice Qr.B Qr.lb Qr.cb, .slice Qr.C Qr.lc Qr.cc, .slice F nf cf]), .slice P np cp] w (Ret (.bool true) w) := by
  have HLi := Lib.hid (fun W => light_any M.name R.A R.B R.C R.D Qr.A Qr.B Qr.C F R.la R.ca R.lb R.cb R.lc R.cc R.ld R.cd Qr.la Qr.ca Qr.lb Qr.cb Qr.lc Qr.cc nf cf M.grid.r M.grid.z M.grid.nr M.grid.nz M.grid.step W)
  cases hbr : briefB R.la R.lb R.lc R.ld Qr.la Qr.lb Qr.lc nf
  · rw [hbr] at HLi
    clear hM hC hF hP hbr
    obtain ⟨A, B, Cl, D, la, ca, lb, cb, lc, cl, ld, cd⟩ := R
    obtain ⟨name, coils, shells, limits, ⟨r, z, nr, nz, step⟩, sensors⟩ := M
    obtain ⟨A1, B1, C1, na, qa, nb, qb, nc, qc⟩ := Qr
    dsimp only at HLi
    show Calls Tryd.prog 3 #[.agg #[.string name, .slice A la ca, .slice B lb cb, .slice Cl lc cl, .int .i64 r, .int .i64 z, .int .i64 nr, .int .i64 nz, .int .i64 step, .slice D ld cd, .slice A1 na qa, .slice B1 nb qb, .slice C1 nc qc, .slice F nf cf], .slice P np cp] w _
    go_enter Tryd.func3, Tryd.ntmps3
    go_upto_region 1 with (fail)
    have Fx : Hid (RowL (w.heap.size) [.string name, .slice A la ca, .slice B lb cb, .slice Cl lc cl, .int .i64 r, .int .i64 z, .int .i64 nr, .int .i64 nz, .int .i64 step, .slice D ld cd, .slice A1 na qa, .slice B1 nb qb, .slice C1 nc qc, .slice F nf cf] (w.alloc (.cells #[.string name, .slice A la ca, .slice B lb cb, .slice Cl lc cl, .int .i64 r, .int .i64 z, .int .i64 nr, .int .i64 nz, .int .i64 step, .slice D ld cd, .slice A1 na qa, .slice B1 nb qb, .slice C1 nc qc, .slice F nf cf] 35))) := Lib.hid (by have h := RowL.new w #[.string name, .slice A la ca, .slice B lb cb, .slice Cl lc cl, .int .i64 r, .int .i64 z, .int .i64 nr, .int .i64 nz, .int .i64 step, .slice D ld cd, .slice A1 na qa, .slice B1 nb qb, .slice C1 nc qc, .slice F nf cf] 35; (try simp only [World.size_alloc] at h); exact h)
    have hB0 : Below w.heap.size w (w.alloc (.cells #[.string name, .slice A la ca, .slice B lb cb, .slice Cl lc cl, .int .i64 r, .int .i64 z, .int .i64 nr, .int .i64 nz, .int .i64 step, .slice D ld cd, .slice A1 na qa, .slice B1 nb qb, .slice C1 nc qc, .slice F nf cf] 35)) := by (with_reducible repeat first | exact Below.refl _ _ | assumption | ((first | refine Below.setCell ?_ ?_ _ | refine Below.alloc ?_ ?_ _); rotate_left; exact (by first | omega | (simp; done) | (simp; omega))) | refine Below.drew ?_ | refine Below_drewN ?_ _)
    have sW0 : w.heap.size < (w.alloc (.cells #[.string name, .slice A la ca, .slice B lb cb, .slice Cl lc cl, .int .i64 r, .int .i64 z, .int .i64 nr, .int .i64 nz, .int .i64 step, .slice D ld cd, .slice A1 na qa, .slice B1 nb qb, .slice C1 nc qc, .slice F nf cf] 35)).heap.size := by simp only [World.size_alloc]; omega
    obtain ⟨W0, hW0⟩ : ∃ W, (w.alloc (.cells #[.string name, .slice A la ca, .slice B lb cb, .slice Cl lc cl, .int .i64 r, .int .i64 z, .int .i64 nr, .int .i64 nz, .int .i64 step, .slice D ld cd, .slice A1 na qa, .slice B1 nb qb, .slice C1 nc qc, .slice F nf cf] 35)) = W := ⟨_, rfl⟩
    rw [hW0] at Fx hB0 sW0 ⊢
    clear hW0
    have x0 := Fx.out.cell 0 (.string name) rfl
    have x1 := Fx.out.cell 1 (.slice A la ca) rfl
    have x2 := Fx.out.cell 2 (.slice B lb cb) rfl
    have x3 := Fx.out.cell 3 (.slice Cl lc cl) rfl
    have x4 := Fx.out.cell 4 (.int .i64 r) rfl
    have x5 := Fx.out.cell 5 (.int .i64 z) rfl
    have x6 := Fx.out.cell 6 (.int .i64 nr) rfl
    have x7 := Fx.out.cell 7 (.int .i64 nz) rfl
    have x8 := Fx.out.cell 8 (.int .i64 step) rfl
    have x9 := Fx.out.cell 9 (.slice D ld cd) rfl
    have x10 := Fx.out.cell 10 (.slice A1 na qa) rfl
    have x11 := Fx.out.cell 11 (.slice B1 nb qb) rfl
    have x12 := Fx.out.cell 12 (.slice C1 nc qc) rfl
    have x13 := Fx.out.cell 13 (.slice F nf cf) rfl
    go_wp2_with fail
    refine (HLi.out _).mono ?_
    rintro e w1 ⟨rfl, hb⟩
    have hB1 := hB0.trans (hb.mono hB0.size)
    clear hb
    go_wp2_with fail
    refine (awake_any _).mono ?_
    rintro e wz ⟨rfl, hb⟩
    have hBz := hB1.trans (hb.mono hB1.size)
    clear hb
    go_wp2_with fail
    go_ret
    exact ⟨rfl, by (with_reducible repeat first | exact Below.refl _ _ | assumption | ((first | refine Below.setCell ?_ ?_ _ | refine Below.alloc ?_ ?_ _); rotate_left; exact (by first | omega | (simp; done) | (simp; omega))) | refine Below.drew ?_ | refine Below_drewN ?_ _)⟩
  rw [hbr] at HLi
  obtain ⟨ka, kb, kc, kd, pa, pb, pc, pd⟩ := brief_bd hbr
  have hM := hM (by omega) (by omega) (by omega) (by omega)
  have hC := hC (by omega) (by omega) (by omega)
  have HC1 := Lib.hid (fun (F2 : Option Addr) (cf2 : Nat) (zs2 : List SpanD) W (hb : Below w.heap.size w W) (hi : IsT 2 SpanD.cells W F2 nf zs2) => candidates_any R M Qr Cd F2 nf cf2 zs2 W (hM.below hb) (hC.below hb) hi (by omega))
  cases he : explB M Cd zs
  · have HC2 := Lib.hid (fun W (hb : Below w.heap.size w W) => (by have h := HC1.out F cf zs W hb (hF.below hb); unfold candZ candE at h; rw [he, if_neg (by decide), if_neg (by decide)] at h; exact h : Calls Tryd.prog 6 #[.agg (machCells R M), Qr.v, .slice F nf cf] W (ListAt 3 pairCells [] 1 W)))
    clear hM hC hF hP hbr HC1 he ka kb kc kd pa pb pc
    obtain ⟨A, B, Cl, D, la, ca, lb, cb, lc, cl, ld, cd⟩ := R
    obtain ⟨name, coils, shells, limits, ⟨r, z, nr, nz, step⟩, sensors⟩ := M
    obtain ⟨A1, B1, C1, na, qa, nb, qb, nc, qc⟩ := Qr
    dsimp only [CurR.v] at HLi HC2
    have HC := Lib.hid (show ∀ W, Below w.heap.size w W → Calls Tryd.prog 6 #[.agg #[.string name, .slice A la ca, .slice B lb cb, .slice Cl lc cl, .int .i64 r, .int .i64 z, .int .i64 nr, .int .i64 nz, .int .i64 step, .slice D ld cd], .agg #[.slice A1 na qa, .slice B1 nb qb, .slice C1 nc qc], .slice F nf cf] W (ListAt 3 pairCells [] 1 W) from HC2.out)
    clear HC2
    show Calls Tryd.prog 3 #[.agg #[.string name, .slice A la ca, .slice B lb cb, .slice Cl lc cl, .int .i64 r, .int .i64 z, .int .i64 nr, .int .i64 nz, .int .i64 step, .slice D ld cd, .slice A1 na qa, .slice B1 nb qb, .slice C1 nc qc, .slice F nf cf], .slice P np cp] w _
    go_enter Tryd.func3, Tryd.ntmps3
    go_upto_region 1 with (fail)
    have Fx : Hid (RowL (w.heap.size) [.string name, .slice A la ca, .slice B lb cb, .slice Cl lc cl, .int .i64 r, .int .i64 z, .int .i64 nr, .int .i64 nz, .int .i64 step, .slice D ld cd, .slice A1 na qa, .slice B1 nb qb, .slice C1 nc qc, .slice F nf cf] (w.alloc (.cells #[.string name, .slice A la ca, .slice B lb cb, .slice Cl lc cl, .int .i64 r, .int .i64 z, .int .i64 nr, .int .i64 nz, .int .i64 step, .slice D ld cd, .slice A1 na qa, .slice B1 nb qb, .slice C1 nc qc, .slice F nf cf] 35))) := Lib.hid (by have h := RowL.new w #[.string name, .slice A la ca, .slice B lb cb, .slice Cl lc cl, .int .i64 r, .int .i64 z, .int .i64 nr, .int .i64 nz, .int .i64 step, .slice D ld cd, .slice A1 na qa, .slice B1 nb qb, .slice C1 nc qc, .slice F nf cf] 35; (try simp only [World.size_alloc] at h); exact h)
    have hB0 : Below w.heap.size w (w.alloc (.cells #[.string name, .slice A la ca, .slice B lb cb, .slice Cl lc cl, .int .i64 r, .int .i64 z, .int .i64 nr, .int .i64 nz, .int .i64 step, .slice D ld cd, .slice A1 na qa, .slice B1 nb qb, .slice C1 nc qc, .slice F nf cf] 35)) := by (with_reducible repeat first | exact Below.refl _ _ | assumption | ((first | refine Below.setCell ?_ ?_ _ | refine Below.alloc ?_ ?_ _); rotate_left; exact (by first | omega | (simp; done) | (simp; omega))) | refine Below.drew ?_ | refine Below_drewN ?_ _)
    have sW0 : w.heap.size < (w.alloc (.cells #[.string name, .slice A la ca, .slice B lb cb, .slice Cl lc cl, .int .i64 r, .int .i64 z, .int .i64 nr, .int .i64 nz, .int .i64 step, .slice D ld cd, .slice A1 na qa, .slice B1 nb qb, .slice C1 nc qc, .slice F nf cf] 35)).heap.size := by simp only [World.size_alloc]; omega
    obtain ⟨W0, hW0⟩ : ∃ W, (w.alloc (.cells #[.string name, .slice A la ca, .slice B lb cb, .slice Cl lc cl, .int .i64 r, .int .i64 z, .int .i64 nr, .int .i64 nz, .int .i64 step, .slice D ld cd, .slice A1 na qa, .slice B1 nb qb, .slice C1 nc qc, .slice F nf cf] 35)) = W := ⟨_, rfl⟩
    rw [hW0] at Fx hB0 sW0 ⊢
    clear hW0
    have x0 := Fx.out.cell 0 (.string name) rfl
    have x1 := Fx.out.cell 1 (.slice A la ca) rfl
    have x2 := Fx.out.cell 2 (.slice B lb cb) rfl
    have x3 := Fx.out.cell 3 (.slice Cl lc cl) rfl
    have x4 := Fx.out.cell 4 (.int .i64 r) rfl
    have x5 := Fx.out.cell 5 (.int .i64 z) rfl
    have x6 := Fx.out.cell 6 (.int .i64 nr) rfl
    have x7 := Fx.out.cell 7 (.int .i64 nz) rfl
    have x8 := Fx.out.cell 8 (.int .i64 step) rfl
    have x9 := Fx.out.cell 9 (.slice D ld cd) rfl
    have x10 := Fx.out.cell 10 (.slice A1 na qa) rfl
    have x11 := Fx.out.cell 11 (.slice B1 nb qb) rfl
    have x12 := Fx.out.cell 12 (.slice C1 nc qc) rfl
    have x13 := Fx.out.cell 13 (.slice F nf cf) rfl
    go_wp2_with fail
    refine (HLi.out _).mono ?_
    rintro e w1 ⟨rfl, hb⟩
    clear x0 x1 x2 x3 x4 x5 x6 x7 x8 x9 x10 x11 x12 x13
    have Gx := Lib.hid (Fx.out.below hb)
    clear Fx
    have Fx := Lib.hid Gx.out
    clear Gx
    have x0 := Fx.out.cell 0 (.string name) rfl
    have x1 := Fx.out.cell 1 (.slice A la ca) rfl
    have x2 := Fx.out.cell 2 (.slice B lb cb) rfl
    have x3 := Fx.out.cell 3 (.slice Cl lc cl) rfl
    have x4 := Fx.out.cell 4 (.int .i64 r) rfl
    have x5 := Fx.out.cell 5 (.int .i64 z) rfl
    have x6 := Fx.out.cell 6 (.int .i64 nr) rfl
    have x7 := Fx.out.cell 7 (.int .i64 nz) rfl
    have x8 := Fx.out.cell 8 (.int .i64 step) rfl
    have x9 := Fx.out.cell 9 (.slice D ld cd) rfl
    have x10 := Fx.out.cell 10 (.slice A1 na qa) rfl
    have x11 := Fx.out.cell 11 (.slice B1 nb qb) rfl
    have x12 := Fx.out.cell 12 (.slice C1 nc qc) rfl
    have x13 := Fx.out.cell 13 (.slice F nf cf) rfl
    have hB1 := hB0.trans (hb.mono hB0.size)
    clear hb
    go_wp2_with fail
    refine (HC.out _ (by (with_reducible repeat first | exact Below.refl _ _ | assumption | ((first | refine Below.setCell ?_ ?_ _ | refine Below.alloc ?_ ?_ _); rotate_left; exact (by first | omega | (simp; done) | (simp; omega))) | refine Below.drew ?_ | refine Below_drewN ?_ _))).mono ?_
    rintro e w2 ⟨A9, c9, rfl, -, -, -, hb⟩
    have hB2 := hB1.trans (hb.mono hB1.size)
    clear hb
    go_wp2_with fail
    refine (awake_any _).mono ?_
    rintro e wz ⟨rfl, hb⟩
    have hBz := hB2.trans (hb.mono hB2.size)
    clear hb
    go_wp2_with fail
    go_ret
    exact ⟨rfl, by (with_reducible repeat first | exact Below.refl _ _ | assumption | ((first | refine Below.setCell ?_ ?_ _ | refine Below.alloc ?_ ?_ _); rotate_left; exact (by first | omega | (simp; done) | (simp; omega))) | refine Below.drew ?_ | refine Below_drewN ?_ _)⟩
  · have HC2 := Lib.hid (fun W (hb : Below w.heap.size w W) => (by have h := HC1.out F cf zs W hb (hF.below hb); unfold candZ candE at h; rw [he, if_pos rfl, if_pos rfl] at h; exact h : Calls Tryd.prog 6 #[.agg (machCells R M), Qr.v, .slice F nf cf] W (ListAt 3 pairCells (candL M Cd zs) 0 W)))
    have HC3 := Lib.hid (fun (F2 : Option Addr) (cf2 : Nat) W (hb : Below w.heap.size w W) (hi : IsT 2 SpanD.cells W F2 nf (narL zs bs)) => (by have h := HC1.out F2 cf2 (narL zs bs) W hb hi; unfold candZ candE at h; rw [nar_expl he, if_pos rfl, if_pos rfl] at h; exact h : Calls Tryd.prog 6 #[.agg (machCells R M), Qr.v, .slice F2 nf cf2] W (ListAt 3 pairCells (candL M Cd (narL zs bs)) 0 W)))
    have HIN := Lib.hid (fun x (hx : x ∈ candL M Cd (narL zs bs)) => (by
      obtain ⟨y, hy, h1, h2, h3⟩ := nar_cand he hx
      exact List.any_eq_true.2 ⟨y, hy, by unfold inB3; simp [h1, h2, h3]⟩ : (candL M Cd zs).any (inB3 x) = true))
    have HVL : Hid (∀ s ∈ zs, vld s.lo s.hi = true) := Lib.hid (by
      have h := he
      unfold explB readsB at h
      rw [Bool.and_eq_true, Bool.and_eq_true, Bool.and_eq_true] at h
      exact fun s hs => List.all_eq_true.1 h.2.2.2 s hs)
    have HTL := Lib.hid (fun (k : Nat) (x : SpanD) (h : zs[k]? = some x) => narL_get (bs := bs) h)
    have hTl : (narL zs bs).length = nf := by rw [narL_len]; exact hF.1
    have HIF := Lib.hid hF
    have HIP := Lib.hid hP
    have hzl := hF.1
    have hbl := hP.1
    clear hM hC hF hP hbr HC1 he ka kb kc kd pa pb pc
    generalize narL zs bs = T at *
    generalize candL M Cd zs = ZL at *
    generalize candL M Cd T = ZK at *
    unfold maxLen at hnp
    obtain ⟨A, B, Cl, D, la, ca, lb, cb, lc, cl, ld, cd⟩ := R
    obtain ⟨name, coils, shells, limits, ⟨r, z, nr, nz, step⟩, sensors⟩ := M
    obtain ⟨A1, B1, C1, na, qa, nb, qb, nc, qc⟩ := Qr
    dsimp only [CurR.v] at *
    have HC := Lib.hid (show ∀ W, Below w.heap.size w W → Calls Tryd.prog 6 #[.agg #[.string name, .slice A la ca, .slice B lb cb, .slice Cl lc cl, .int .i64 r, .int .i64 z, .int .i64 nr, .int .i64 nz, .int .i64 step, .slice D ld cd], .agg #[.slice A1 na qa, .slice B1 nb qb, .slice C1 nc qc], .slice F nf cf] W (ListAt 3 pairCells ZL 0 W) from HC2.out)
    have HD := Lib.hid (show ∀ (F2 : Option Addr) (cf2 : Nat) W, Below w.heap.size w W → IsT 2 SpanD.cells W F2 nf T → Calls Tryd.prog 6 #[.agg #[.string name, .slice A la ca, .slice B lb cb, .slice Cl lc cl, .int .i64 r, .int .i64 z, .int .i64 nr, .int .i64 nz, .int .i64 step, .slice D ld cd], .agg #[.slice A1 na qa, .slice B1 nb qb, .slice C1 nc qc], .slice F2 nf cf2] W (ListAt 3 pairCells ZK 0 W) from HC3.out)
    have HTl := Lib.hid hTl
    clear HC2 HC3 hTl
    show Calls Tryd.prog 3 #[.agg #[.string name, .slice A la ca, .slice B lb cb, .slice Cl lc cl, .int .i64 r, .int .i64 z, .int .i64 nr, .int .i64 nz, .int .i64 step, .slice D ld cd, .slice A1 na qa, .slice B1 nb qb, .slice C1 nc qc, .slice F nf cf], .slice P np cp] w _
    go_enter Tryd.func3, Tryd.ntmps3
    go_upto_region 1 with (fail)
    have Fx : Hid (RowL (w.heap.size) [.string name, .slice A la ca, .slice B lb cb, .slice Cl lc cl, .int .i64 r, .int .i64 z, .int .i64 nr, .int .i64 nz, .int .i64 step, .slice D ld cd, .slice A1 na qa, .slice B1 nb qb, .slice C1 nc qc, .slice F nf cf] (w.alloc (.cells #[.string name, .slice A la ca, .slice B lb cb, .slice Cl lc cl, .int .i64 r, .int .i64 z, .int .i64 nr, .int .i64 nz, .int .i64 step, .slice D ld cd, .slice A1 na qa, .slice B1 nb qb, .slice C1 nc qc, .slice F nf cf] 35))) := Lib.hid (by have h := RowL.new w #[.string name, .slice A la ca, .slice B lb cb, .slice Cl lc cl, .int .i64 r, .int .i64 z, .int .i64 nr, .int .i64 nz, .int .i64 step, .slice D ld cd, .slice A1 na qa, .slice B1 nb qb, .slice C1 nc qc, .slice F nf cf] 35; (try simp only [World.size_alloc] at h); exact h)
    have hB0 : Below w.heap.size w (w.alloc (.cells #[.string name, .slice A la ca, .slice B lb cb, .slice Cl lc cl, .int .i64 r, .int .i64 z, .int .i64 nr, .int .i64 nz, .int .i64 step, .slice D ld cd, .slice A1 na qa, .slice B1 nb qb, .slice C1 nc qc, .slice F nf cf] 35)) := by (with_reducible repeat first | exact Below.refl _ _ | assumption | ((first | refine Below.setCell ?_ ?_ _ | refine Below.alloc ?_ ?_ _); rotate_left; exact (by first | omega | (simp; done) | (simp; omega))) | refine Below.drew ?_ | refine Below_drewN ?_ _)
    have sW0 : w.heap.size < (w.alloc (.cells #[.string name, .slice A la ca, .slice B lb cb, .slice Cl lc cl, .int .i64 r, .int .i64 z, .int .i64 nr, .int .i64 nz, .int .i64 step, .slice D ld cd, .slice A1 na qa, .slice B1 nb qb, .slice C1 nc qc, .slice F nf cf] 35)).heap.size := by simp only [World.size_alloc]; omega
    obtain ⟨W0, hW0⟩ : ∃ W, (w.alloc (.cells #[.string name, .slice A la ca, .slice B lb cb, .slice Cl lc cl, .int .i64 r, .int .i64 z, .int .i64 nr, .int .i64 nz, .int .i64 step, .slice D ld cd, .slice A1 na qa, .slice B1 nb qb, .slice C1 nc qc, .slice F nf cf] 35)) = W := ⟨_, rfl⟩
    rw [hW0] at Fx hB0 sW0 ⊢
    clear hW0
    have x0 := Fx.out.cell 0 (.string name) rfl
    have x1 := Fx.out.cell 1 (.slice A la ca) rfl
    have x2 := Fx.out.cell 2 (.slice B lb cb) rfl
    have x3 := Fx.out.cell 3 (.slice Cl lc cl) rfl
    have x4 := Fx.out.cell 4 (.int .i64 r) rfl
    have x5 := Fx.out.cell 5 (.int .i64 z) rfl
    have x6 := Fx.out.cell 6 (.int .i64 nr) rfl
    have x7 := Fx.out.cell 7 (.int .i64 nz) rfl
    have x8 := Fx.out.cell 8 (.int .i64 step) rfl
    have x9 := Fx.out.cell 9 (.slice D ld cd) rfl
    have x10 := Fx.out.cell 10 (.slice A1 na qa) rfl
    have x11 := Fx.out.cell 11 (.slice B1 nb qb) rfl
    have x12 := Fx.out.cell 12 (.slice C1 nc qc) rfl
    have x13 := Fx.out.cell 13 (.slice F nf cf) rfl
    go_wp2_with fail
    refine (HLi.out _).mono ?_
    rintro e w1 ⟨rfl, hb⟩
    clear x0 x1 x2 x3 x4 x5 x6 x7 x8 x9 x10 x11 x12 x13
    have Gx := Lib.hid (Fx.out.below hb)
    clear Fx
    have Fx := Lib.hid Gx.out
    clear Gx
    have x0 := Fx.out.cell 0 (.string name) rfl
    have x1 := Fx.out.cell 1 (.slice A la ca) rfl
    have x2 := Fx.out.cell 2 (.slice B lb cb) rfl
    have x3 := Fx.out.cell 3 (.slice Cl lc cl) rfl
    have x4 := Fx.out.cell 4 (.int .i64 r) rfl
    have x5 := Fx.out.cell 5 (.int .i64 z) rfl
    have x6 := Fx.out.cell 6 (.int .i64 nr) rfl
    have x7 := Fx.out.cell 7 (.int .i64 nz) rfl
    have x8 := Fx.out.cell 8 (.int .i64 step) rfl
    have x9 := Fx.out.cell 9 (.slice D ld cd) rfl
    have x10 := Fx.out.cell 10 (.slice A1 na qa) rfl
    have x11 := Fx.out.cell 11 (.slice B1 nb qb) rfl
    have x12 := Fx.out.cell 12 (.slice C1 nc qc) rfl
    have x13 := Fx.out.cell 13 (.slice F nf cf) rfl
    have hB1 := hB0.trans (hb.mono hB0.size)
    have hz1 : w.heap.size < w1.heap.size := Nat.lt_of_lt_of_le sW0 hb.size
    clear hb HLi hB0 sW0
    go_wp2_with fail
    refine (HC.out _ (by (with_reducible repeat first | exact Below.refl _ _ | assumption | ((first | refine Below.setCell ?_ ?_ _ | refine Below.alloc ?_ ?_ _); rotate_left; exact (by first | omega | (simp; done) | (simp; omega))) | refine Below.drew ?_ | refine Below_drewN ?_ _))).mono ?_
    rintro e w2 ⟨LA, lcap, rfl, hIL, hl1, hl2, hb⟩
    unfold maxLen at hl2
    have hlz : ZL.length ≤ 9223372036854775807 := by omega
    clear hl1 hl2
    clear x0 x1 x2 x3 x4 x5 x6 x7 x8 x9 x10 x11 x12 x13
    have Gx := Lib.hid (Fx.out.below hb)
    clear Fx
    have Fx := Lib.hid Gx.out
    clear Gx
    have x0 := Fx.out.cell 0 (.string name) rfl
    have x1 := Fx.out.cell 1 (.slice A la ca) rfl
    have x2 := Fx.out.cell 2 (.slice B lb cb) rfl
    have x3 := Fx.out.cell 3 (.slice Cl lc cl) rfl
    have x4 := Fx.out.cell 4 (.int .i64 r) rfl
    have x5 := Fx.out.cell 5 (.int .i64 z) rfl
    have x6 := Fx.out.cell 6 (.int .i64 nr) rfl
    have x7 := Fx.out.cell 7 (.int .i64 nz) rfl
    have x8 := Fx.out.cell 8 (.int .i64 step) rfl
    have x9 := Fx.out.cell 9 (.slice D ld cd) rfl
    have x10 := Fx.out.cell 10 (.slice A1 na qa) rfl
    have x11 := Fx.out.cell 11 (.slice B1 nb qb) rfl
    have x12 := Fx.out.cell 12 (.slice C1 nc qc) rfl
    have x13 := Fx.out.cell 13 (.slice F nf cf) rfl
    have hB2 := hB1.trans (hb.mono hB1.size)
    have hz2 : w.heap.size < w2.heap.size := Nat.lt_of_lt_of_le hz1 hb.size
    have HIL := Lib.hid hIL
    clear hb HC hIL
    have HX2 := Lib.hid Fx.out
    go_upto_region 7 with (fail)
    have Fy : Hid (RowL (w2.heap.size) [.string name, .slice A la ca, .slice B lb cb, .slice Cl lc cl, .int .i64 r, .int .i64 z, .int .i64 nr, .int .i64 nz, .int .i64 step, .slice D ld cd, .slice A1 na qa, .slice B1 nb qb, .slice C1 nc qc, .slice F nf cf] (w2.alloc (.cells #[.string name, .slice A la ca, .slice B lb cb, .slice Cl lc cl, .int .i64 r, .int .i64 z, .int .i64 nr, .int .i64 nz, .int .i64 step, .slice D ld cd, .slice A1 na qa, .slice B1 nb qb, .slice C1 nc qc, .slice F nf cf] 35))) := Lib.hid (by have h := RowL.new w2 #[.string name, .slice A la ca, .slice B lb cb, .slice Cl lc cl, .int .i64 r, .int .i64 z, .int .i64 nr, .int .i64 nz, .int .i64 step, .slice D ld cd, .slice A1 na qa, .slice B1 nb qb, .slice C1 nc qc, .slice F nf cf] 35; (try simp only [World.size_alloc] at h); exact h)
    have hb3 : Below w2.heap.size w2 (w2.alloc (.cells #[.string name, .slice A la ca, .slice B lb cb, .slice Cl lc cl, .int .i64 r, .int .i64 z, .int .i64 nr, .int .i64 nz, .int .i64 step, .slice D ld cd, .slice A1 na qa, .slice B1 nb qb, .slice C1 nc qc, .slice F nf cf] 35)) := by (with_reducible repeat first | exact Below.refl _ _ | assumption | ((first | refine Below.setCell ?_ ?_ _ | refine Below.alloc ?_ ?_ _); rotate_left; exact (by first | omega | (simp; done) | (simp; omega))) | refine Below.drew ?_ | refine Below_drewN ?_ _)
    have sW3 : w2.heap.size < (w2.alloc (.cells #[.string name, .slice A la ca, .slice B lb cb, .slice Cl lc cl, .int .i64 r, .int .i64 z, .int .i64 nr, .int .i64 nz, .int .i64 step, .slice D ld cd, .slice A1 na qa, .slice B1 nb qb, .slice C1 nc qc, .slice F nf cf] 35)).heap.size := by simp only [World.size_alloc]; omega
    obtain ⟨W3, hW3⟩ : ∃ W, (w2.alloc (.cells #[.string name, .slice A la ca, .slice B lb cb, .slice Cl lc cl, .int .i64 r, .int .i64 z, .int .i64 nr, .int .i64 nz, .int .i64 step, .slice D ld cd, .slice A1 na qa, .slice B1 nb qb, .slice C1 nc qc, .slice F nf cf] 35)) = W := ⟨_, rfl⟩
    rw [hW3] at Fy hb3 sW3 ⊢
    clear hW3
    clear x0 x1 x2 x3 x4 x5 x6 x7 x8 x9 x10 x11 x12 x13
    have Gx := Lib.hid (Fx.out.below hb3)
    clear Fx
    have Fx := Lib.hid Gx.out
    clear Gx
    have x0 := Fx.out.cell 0 (.string name) rfl
    have x1 := Fx.out.cell 1 (.slice A la ca) rfl
    have x2 := Fx.out.cell 2 (.slice B lb cb) rfl
    have x3 := Fx.out.cell 3 (.slice Cl lc cl) rfl
    have x4 := Fx.out.cell 4 (.int .i64 r) rfl
    have x5 := Fx.out.cell 5 (.int .i64 z) rfl
    have x6 := Fx.out.cell 6 (.int .i64 nr) rfl
    have x7 := Fx.out.cell 7 (.int .i64 nz) rfl
    have x8 := Fx.out.cell 8 (.int .i64 step) rfl
    have x9 := Fx.out.cell 9 (.slice D ld cd) rfl
    have x10 := Fx.out.cell 10 (.slice A1 na qa) rfl
    have x11 := Fx.out.cell 11 (.slice B1 nb qb) rfl
    have x12 := Fx.out.cell 12 (.slice C1 nc qc) rfl
    have x13 := Fx.out.cell 13 (.slice F nf cf) rfl
    have y0 := Fy.out.cell 0 (.string name) rfl
    have yf0 := Fy.out.mark 0 (by simp)
    have y1 := Fy.out.cell 1 (.slice A la ca) rfl
    have yf1 := Fy.out.mark 1 (by simp)
    have y2 := Fy.out.cell 2 (.slice B lb cb) rfl
    have yf2 := Fy.out.mark 2 (by simp)
    have y3 := Fy.out.cell 3 (.slice Cl lc cl) rfl
    have yf3 := Fy.out.mark 3 (by simp)
    have y4 := Fy.out.cell 4 (.int .i64 r) rfl
    have yf4 := Fy.out.mark 4 (by simp)
    have y5 := Fy.out.cell 5 (.int .i64 z) rfl
    have yf5 := Fy.out.mark 5 (by simp)
    have y6 := Fy.out.cell 6 (.int .i64 nr) rfl
    have yf6 := Fy.out.mark 6 (by simp)
    have y7 := Fy.out.cell 7 (.int .i64 nz) rfl
    have yf7 := Fy.out.mark 7 (by simp)
    have y8 := Fy.out.cell 8 (.int .i64 step) rfl
    have yf8 := Fy.out.mark 8 (by simp)
    have y9 := Fy.out.cell 9 (.slice D ld cd) rfl
    have yf9 := Fy.out.mark 9 (by simp)
    have y10 := Fy.out.cell 10 (.slice A1 na qa) rfl
    have yf10 := Fy.out.mark 10 (by simp)
    have y11 := Fy.out.cell 11 (.slice B1 nb qb) rfl
    have yf11 := Fy.out.mark 11 (by simp)
    have y12 := Fy.out.cell 12 (.slice C1 nc qc) rfl
    have yf12 := Fy.out.mark 12 (by simp)
    have y13 := Fy.out.cell 13 (.slice F nf cf) rfl
    have yf13 := Fy.out.mark 13 (by simp)
    go_upto_region 8 with (fail)
    have hY0 : Hid (RowL w2.heap.size [.string name, .slice A la ca, .slice B lb cb, .slice Cl lc cl, .int .i64 r, .int .i64 z, .int .i64 nr, .int .i64 nz, .int .i64 step, .slice D ld cd, .slice A1 na qa, .slice B1 nb qb, .slice C1 nc qc, .slice none 0 0] (W3.setCell ⟨w2.heap.size, 13, none⟩ (.slice none 0 0))) := Lib.hid (Fy.out.put 13 _ (by simp))
    have hB4 : Below w2.heap.size w2 (W3.setCell ⟨w2.heap.size, 13, none⟩ (.slice none 0 0)) := hb3.setCell (by dsimp only; omega) _
    obtain ⟨W4, hW4⟩ : ∃ W, W3.setCell ⟨w2.heap.size, 13, none⟩ (.slice none 0 0) = W := ⟨_, rfl⟩
    rw [hW4] at hY0 hB4 ⊢
    clear hW4 hb3 Fx Fy y0 yf0 y1 yf1 y2 yf2 y3 yf3 y4 yf4 y5 yf5 y6 yf6 y7 yf7 y8 yf8 y9 yf9 y10 yf10 y11 yf11 y12 yf12 y13 yf13
    go_wp2_with fail
    go_loopw [8] (fun i wr => ∃ (j : Nat) (G : Option Addr) (gc : Nat), j ≤ nf ∧ i = .int .i64 j ∧ Hid (RowL w2.heap.size [.string name, .slice A la ca, .slice B lb cb, .slice Cl lc cl, .int .i64 r, .int .i64 z, .int .i64 nr, .int .i64 nz, .int .i64 step, .slice D ld cd, .slice A1 na qa, .slice B1 nb qb, .slice C1 nc qc, .slice G j gc] wr ∧ wr.ownsRow (w2.heap.size + 1) 43 2 (.slice G j gc) j ((T.take j).flatMap SpanD.cells)) ∧ Below w2.heap.size w2 wr) (fun i _ => nf - (intOf i).toNat)
    case atStart => exact ⟨0, none, 0, Nat.zero_le _, rfl, Lib.hid ⟨hY0.out, ⟨rfl, Or.inl ⟨rfl, rfl⟩⟩⟩, hB4⟩
    case round =>
      obtain ⟨j, G, gc, hj, rfl, hH, hB⟩ := hrel
      have sz := hB.size
      have hBw := hB2.trans (hB.mono hB2.size)
      have x13 := (HX2.out.below hB).cell 13 (.slice F nf cf) rfl
      have HY := Lib.hid hH.out.1
      have HO := Lib.hid hH.out.2
      have hyl : w2.heap.size < wr.heap.size := HY.out.lt
      have y13o := HY.out.cell 13 (.slice G j gc) rfl
      clear hH hY0 hB4
      have jn : ((j : Int)).toNat = j := by omega
      have j0 : (0 : Int) ≤ j := by omega
      by_cases hlt : j < nf
      · obtain ⟨-, hcf⟩ := HIF.out.below hBw
        obtain ⟨bf, of, rfl, hbf, hcg⟩ := hcf (by omega)
        obtain ⟨s, hs⟩ : ∃ s, zs[j]? = some s := ⟨_, List.getElem?_eq_getElem (by omega)⟩
        have e0 : wr.cell? ⟨bf, of + j * 2, none⟩ = some (.int .i64 s.lo) := by have h := hcg j s hs 0 _ rfl; simpa using h
        have e1 : wr.cell? ⟨bf, of + j * 2 + 1, none⟩ = some (.int .i64 s.hi) := by have h := hcg j s hs 1 _ rfl; simpa using h
        have hv := vld_iff.1 (HVL.out s (List.mem_of_getElem? hs))
        have HTj := Lib.hid (HTL.out j s hs)
        clear hcf hcg hs
        obtain ⟨xl, xh⟩ := s
        dsimp only at e0 e1 hv
        have v1 : IntKind.i64.wrap (xh - xl) = xh - xl := IntWalk.i64_in _ (by omega)
        by_cases h1 : j < np
        · obtain ⟨-, hcb⟩ := HIP.out.below hBw
          obtain ⟨bp, op, rfl, hbp, hcp⟩ := hcb (by omega)
          obtain ⟨b, hb⟩ : ∃ b, bs[j]? = some b := ⟨_, List.getElem?_eq_getElem (by omega)⟩
          have f0 : wr.cell? ⟨bp, op + j, none⟩ = some (.int .i64 b) := by have h := hcp j b hb 0 _ rfl; simpa using h
          rw [hb] at HTj
          clear hcb hcp hb
          by_cases h2 : 0 < b
          · by_cases h3 : b ≤ xh - xl
            · have hn : narS ⟨xl, xh⟩ (some b) = ⟨xl + b / 2, xh - (b - b / 2)⟩ := by unfold narS; dsimp only; rw [if_pos ⟨h2, h3⟩]
              rw [hn] at HTj
              clear hn
              have u0 : b.tdiv 2 = b / 2 := Int.tdiv_eq_ediv_of_nonneg (by omega)
              have u1 : IntKind.i64.wrap (b / 2) = b / 2 := IntWalk.i64_in _ (by omega)
              have u2 : IntKind.i64.wrap (xl + b / 2) = xl + b / 2 := IntWalk.i64_in _ (by omega)
              have u3 : IntKind.i64.wrap (b - b / 2) = b - b / 2 := IntWalk.i64_in _ (by omega)
              have u4 : IntKind.i64.wrap (xh - (b - b / 2)) = xh - (b - b / 2) := IntWalk.i64_in _ (by omega)
              go_wp2_with fail
              go_quiet (fail)
              have s0 := (RowL.new wr #[.int .i64 xl, .int .i64 xh] 43)
              have S0 : Hid (RowL wr.heap.size [.int .i64 xl, .int .i64 xh] ((wr.alloc (.cells #[.int .i64 xl, .int .i64 xh] 43)).drewN nq)) := Lib.hid (s0.below (Below_drewN (Below.refl _ _) _))
              have hb7 : Below wr.heap.size wr ((wr.alloc (.cells #[.int .i64 xl, .int .i64 xh] 43)).drewN nq) := by (with_reducible repeat first | exact Below.refl _ _ | assumption | ((first | refine Below.setCell ?_ ?_ _ | refine Below.alloc ?_ ?_ _); rotate_left; exact (by first | omega | (simp; done) | (simp; omega))) | refine Below.drew ?_ | refine Below_drewN ?_ _)
              go_upto_region 13 with (fail)
              clear s0
              obtain ⟨W7, hW7⟩ : ∃ W, (wr.alloc (.cells #[.int .i64 xl, .int .i64 xh] 43)).drewN nq = W := ⟨_, rfl⟩
              rw [hW7] at S0 hb7 ⊢
              clear hW7 e0 e1 x13 y13o
              have q0 := S0.out.cell 0 (.int .i64 xl) rfl
              have q1 := S0.out.cell 1 (.int .i64 xh) rfl
              have qf0 := S0.out.mark 0 (by simp)
              have qf1 := S0.out.mark 1 (by simp)
              have f0' := (hb7.cell (p := ⟨bp, op + j, none⟩) hbp).trans f0
              have hs7 := hb7.size
              have hl7 := S0.out.lt
              have F0 := Lib.hid f0
              clear f0
              go_still_tail 9, (by kernel_rfl)
              change wpList _ _ _ _ _ W7.drew
              go_wp2_with fail
              have S1 : Hid (RowL wr.heap.size [.int .i64 (xl + b / 2), .int .i64 xh] ((W7.setCell ⟨wr.heap.size, 0, none⟩ (.int .i64 (xl + b / 2))).drew)) := Lib.hid ((S0.out.put 0 _ (by simp)).drew)
              have hb8 : Below wr.heap.size wr ((W7.setCell ⟨wr.heap.size, 0, none⟩ (.int .i64 (xl + b / 2))).drew) := by (with_reducible repeat first | exact Below.refl _ _ | assumption | ((first | refine Below.setCell ?_ ?_ _ | refine Below.alloc ?_ ?_ _); rotate_left; exact (by first | omega | (simp; done) | (simp; omega))) | refine Below.drew ?_ | refine Below_drewN ?_ _)
              obtain ⟨W8, hW8⟩ : ∃ W, (W7.setCell ⟨wr.heap.size, 0, none⟩ (.int .i64 (xl + b / 2))).drew = W := ⟨_, rfl⟩
              rw [hW8] at S1 hb8 ⊢
              clear hW8 q0 q1 qf0 qf1 S0 hb7
              have q0 := S1.out.cell 0 (.int .i64 (xl + b / 2)) rfl
              have q1 := S1.out.cell 1 (.int .i64 xh) rfl
              have qf0 := S1.out.mark 0 (by simp)
              have qf1 := S1.out.mark 1 (by simp)
              have hs8 := hb8.size
              have f1 := (hb8.cell (p := ⟨bp, op + j, none⟩) hbp).trans F0.out
              have hl8 := S1.out.lt
              have hb9 : Below (w2.heap.size + 1) wr W8 := hb8.mono (by omega)
              clear f0'
              go_still_tail 14, (by kernel_rfl)
              change wpList _ _ _ _ _ W8.drew
              have y13o := (HY.out.below hb8).cell 13 (.slice G j gc) rfl
              go_wp2_with (at_builtin; refine list_push1 (w2.heap.size + 1) wr rfl (Operand.tmp 93) (Operand.tmp 95) 33 43 2 16 _ Tryd.underlying33 infoS rfl (by decide) rfl (.slice G j gc) j ((T.take j).flatMap SpanD.cells) rfl (ownK_below HO.out (by (with_reducible repeat first | exact Below.refl _ _ | assumption | ((first | refine Below.setCell ?_ ?_ _ | refine Below.alloc ?_ ?_ _); rotate_left; exact (by first | omega | (simp; done) | (simp; omega))) | refine Below.drew ?_ | refine Below_drewN ?_ _))) _ #[.int .i64 (xl + b / 2), .int .i64 (xh - (b - b / 2))] rfl (blk_new (by first | omega | ((try simp only [World.size_alloc, World.size_setCell, size_drew, size_drewN]); omega) | (simp; done) | (simp; omega))) rfl (by simp [Value.oneCell']) (by omega) (by decide) (by first | omega | ((try simp only [World.size_alloc, World.size_setCell, size_drew, size_drewN]); omega) | (simp; done) | (simp; omega)) (by (with_reducible repeat first | exact Below.refl _ _ | assumption | ((first | refine Below.setCell ?_ ?_ _ | refine Below.alloc ?_ ?_ _); rotate_left; exact (by first | omega | (simp; done) | (simp; omega))) | refine Below.drew ?_ | refine Below_drewN ?_ _)) ?_; intro A5 cap5 w5 hown5 hB5 hs5; have HO5 := Lib.hid hown5; have hY5 := HY.out.belowB (by omega) hB5; have y13 := hY5.cell 13 (.slice G j gc) rfl; have yf13 := hY5.mark 13 (by simp); have HY5 := Lib.hid hY5; have hs9 : w2.heap.size < w5.heap.size := hY5.lt; clear hown5 hY5 y13o)
              go_roundw
              case rel => exact ⟨j + 1, A5, cap5, by omega, by go_num, Lib.hid ⟨(HY5.out.put 13 (.slice A5 (j + 1) cap5) (by simp)), by
                have h := own_setK HO5.out (p := ⟨w2.heap.size, 13, none⟩) (by dsimp only; omega) (.slice A5 (j + 1) cap5)
                rw [take_snoc HTj.out, List.flatMap_append]
                exact h⟩, (hB.trans (hB5.mono (by omega))).setCell (by dsimp only; omega) _⟩
              case measure => simp [intOf]; omega
            · have d3 : decide (b ≤ xh - xl) = false := decide_eq_false h3
              have hn : narS ⟨xl, xh⟩ (some b) = ⟨xl, xh⟩ := by unfold narS; dsimp only; rw [if_neg (by omega)]
              rw [hn] at HTj
              clear hn
              go_wp2_with fail
              go_quiet (fail)
              go_wp2_with (at_builtin; refine list_push1 (w2.heap.size + 1) wr rfl (Operand.tmp 93) (Operand.tmp 95) 33 43 2 16 _ Tryd.underlying33 infoS rfl (by decide) rfl (.slice G j gc) j ((T.take j).flatMap SpanD.cells) rfl (ownK_below HO.out (by (with_reducible repeat first | exact Below.refl _ _ | assumption | ((first | refine Below.setCell ?_ ?_ _ | refine Below.alloc ?_ ?_ _); rotate_left; exact (by first | omega | (simp; done) | (simp; omega))) | refine Below.drew ?_ | refine Below_drewN ?_ _))) _ #[.int .i64 xl, .int .i64 xh] rfl (blk_new (by first | omega | ((try simp only [World.size_alloc, World.size_setCell, size_drew, size_drewN]); omega) | (simp; done) | (simp; omega))) rfl (by simp [Value.oneCell']) (by omega) (by decide) (by first | omega | ((try simp only [World.size_alloc, World.size_setCell, size_drew, size_drewN]); omega) | (simp; done) | (simp; omega)) (by (with_reducible repeat first | exact Below.refl _ _ | assumption | ((first | refine Below.setCell ?_ ?_ _ | refine Below.alloc ?_ ?_ _); rotate_left; exact (by first | omega | (simp; done) | (simp; omega))) | refine Below.drew ?_ | refine Below_drewN ?_ _)) ?_; intro A5 cap5 w5 hown5 hB5 hs5; have HO5 := Lib.hid hown5; have hY5 := HY.out.belowB (by omega) hB5; have y13 := hY5.cell 13 (.slice G j gc) rfl; have yf13 := hY5.mark 13 (by simp); have HY5 := Lib.hid hY5; have hs9 : w2.heap.size < w5.heap.size := hY5.lt; clear hown5 hY5 y13o)
              go_roundw
              case rel => exact ⟨j + 1, A5, cap5, by omega, by go_num, Lib.hid ⟨(HY5.out.put 13 (.slice A5 (j + 1) cap5) (by simp)), by
                have h := own_setK HO5.out (p := ⟨w2.heap.size, 13, none⟩) (by dsimp only; omega) (.slice A5 (j + 1) cap5)
                rw [take_snoc HTj.out, List.flatMap_append]
                exact h⟩, (hB.trans (hB5.mono (by omega))).setCell (by dsimp only; omega) _⟩
              case measure => simp [intOf]; omega
          · have d2 : decide (0 < b) = false := decide_eq_false h2
            have hn : narS ⟨xl, xh⟩ (some b) = ⟨xl, xh⟩ := by unfold narS; dsimp only; rw [if_neg (by omega)]
            rw [hn] at HTj
            clear hn
            go_wp2_with fail
            go_quiet (fail)
            go_wp2_with (at_builtin; refine list_push1 (w2.heap.size + 1) wr rfl (Operand.tmp 93) (Operand.tmp 95) 33 43 2 16 _ Tryd.underlying33 infoS rfl (by decide) rfl (.slice G j gc) j ((T.take j).flatMap SpanD.cells) rfl (ownK_below HO.out (by (with_reducible repeat first | exact Below.refl _ _ | assumption | ((first | refine Below.setCell ?_ ?_ _ | refine Below.alloc ?_ ?_ _); rotate_left; exact (by first | omega | (simp; done) | (simp; omega))) | refine Below.drew ?_ | refine Below_drewN ?_ _))) _ #[.int .i64 xl, .int .i64 xh] rfl (blk_new (by first | omega | ((try simp only [World.size_alloc, World.size_setCell, size_drew, size_drewN]); omega) | (simp; done) | (simp; omega))) rfl (by simp [Value.oneCell']) (by omega) (by decide) (by first | omega | ((try simp only [World.size_alloc, World.size_setCell, size_drew, size_drewN]); omega) | (simp; done) | (simp; omega)) (by (with_reducible repeat first | exact Below.refl _ _ | assumption | ((first | refine Below.setCell ?_ ?_ _ | refine Below.alloc ?_ ?_ _); rotate_left; exact (by first | omega | (simp; done) | (simp; omega))) | refine Below.drew ?_ | refine Below_drewN ?_ _)) ?_; intro A5 cap5 w5 hown5 hB5 hs5; have HO5 := Lib.hid hown5; have hY5 := HY.out.belowB (by omega) hB5; have y13 := hY5.cell 13 (.slice G j gc) rfl; have yf13 := hY5.mark 13 (by simp); have HY5 := Lib.hid hY5; have hs9 : w2.heap.size < w5.heap.size := hY5.lt; clear hown5 hY5 y13o)
            go_roundw
            case rel => exact ⟨j + 1, A5, cap5, by omega, by go_num, Lib.hid ⟨(HY5.out.put 13 (.slice A5 (j + 1) cap5) (by simp)), by
              have h := own_setK HO5.out (p := ⟨w2.heap.size, 13, none⟩) (by dsimp only; omega) (.slice A5 (j + 1) cap5)
              rw [take_snoc HTj.out, List.flatMap_append]
              exact h⟩, (hB.trans (hB5.mono (by omega))).setCell (by dsimp only; omega) _⟩
            case measure => simp [intOf]; omega
        · have hnone : bs[j]? = none := List.getElem?_eq_none (by omega)
          have d1 : decide ((j : Int) < (np : Int)) = false := decide_eq_false (by omega)
          rw [hnone] at HTj
          clear hnone
          have hn : narS ⟨xl, xh⟩ none = ⟨xl, xh⟩ := rfl
          rw [hn] at HTj
          clear hn
          go_wp2_with fail
          go_quiet (fail)
          go_wp2_with (at_builtin; refine list_push1 (w2.heap.size + 1) wr rfl (Operand.tmp 93) (Operand.tmp 95) 33 43 2 16 _ Tryd.underlying33 infoS rfl (by decide) rfl (.slice G j gc) j ((T.take j).flatMap SpanD.cells) rfl (ownK_below HO.out (by (with_reducible repeat first | exact Below.refl _ _ | assumption | ((first | refine Below.setCell ?_ ?_ _ | refine Below.alloc ?_ ?_ _); rotate_left; exact (by first | omega | (simp; done) | (simp; omega))) | refine Below.drew ?_ | refine Below_drewN ?_ _))) _ #[.int .i64 xl, .int .i64 xh] rfl (blk_new (by first | omega | ((try simp only [World.size_alloc, World.size_setCell, size_drew, size_drewN]); omega) | (simp; done) | (simp; omega))) rfl (by simp [Value.oneCell']) (by omega) (by decide) (by first | omega | ((try simp only [World.size_alloc, World.size_setCell, size_drew, size_drewN]); omega) | (simp; done) | (simp; omega)) (by (with_reducible repeat first | exact Below.refl _ _ | assumption | ((first | refine Below.setCell ?_ ?_ _ | refine Below.alloc ?_ ?_ _); rotate_left; exact (by first | omega | (simp; done) | (simp; omega))) | refine Below.drew ?_ | refine Below_drewN ?_ _)) ?_; intro A5 cap5 w5 hown5 hB5 hs5; have HO5 := Lib.hid hown5; have hY5 := HY.out.belowB (by omega) hB5; have y13 := hY5.cell 13 (.slice G j gc) rfl; have yf13 := hY5.mark 13 (by simp); have HY5 := Lib.hid hY5; have hs9 : w2.heap.size < w5.heap.size := hY5.lt; clear hown5 hY5 y13o)
          go_roundw
          case rel => exact ⟨j + 1, A5, cap5, by omega, by go_num, Lib.hid ⟨(HY5.out.put 13 (.slice A5 (j + 1) cap5) (by simp)), by
            have h := own_setK HO5.out (p := ⟨w2.heap.size, 13, none⟩) (by dsimp only; omega) (.slice A5 (j + 1) cap5)
            rw [take_snoc HTj.out, List.flatMap_append]
            exact h⟩, (hB.trans (hB5.mono (by omega))).setCell (by dsimp only; omega) _⟩
          case measure => simp [intOf]; omega
      · obtain rfl : j = nf := by omega
        have hOT := HO.out
        rw [List.take_of_length_le (by rw [HTl.out]; omega)] at hOT
        obtain ⟨hI2, -, -⟩ := own_isT (enc := SpanD.cells) (fun x => rfl) (by decide) hOT HTl.out
        have HI2 := Lib.hid hI2
        clear hOT hI2 y13o
        have y0 := HY.out.cell 0 (.string name) rfl
        have y1 := HY.out.cell 1 (.slice A la ca) rfl
        have y2 := HY.out.cell 2 (.slice B lb cb) rfl
        have y3 := HY.out.cell 3 (.slice Cl lc cl) rfl
        have y4 := HY.out.cell 4 (.int .i64 r) rfl
        have y5 := HY.out.cell 5 (.int .i64 z) rfl
        have y6 := HY.out.cell 6 (.int .i64 nr) rfl
        have y7 := HY.out.cell 7 (.int .i64 nz) rfl
        have y8 := HY.out.cell 8 (.int .i64 step) rfl
        have y9 := HY.out.cell 9 (.slice D ld cd) rfl
        have y10 := HY.out.cell 10 (.slice A1 na qa) rfl
        have y11 := HY.out.cell 11 (.slice B1 nb qb) rfl
        have y12 := HY.out.cell 12 (.slice C1 nc qc) rfl
        have y13 := HY.out.cell 13 (.slice G j gc) rfl
        skip
        go_wp2_with fail
        refine (HD.out G gc wr hBw HI2.out).mono ?_
        rintro e w6 ⟨KA, kcap, rfl, hIK, hk1, hk2, hb6⟩
        unfold maxLen at hk2
        have hkz : ZK.length ≤ 9223372036854775807 := by omega
        clear hk1 hk2
        have HIK := Lib.hid hIK
        have hB6 := hBw.trans (hb6.mono hBw.size)
        have HLL := Lib.hid (HIL.out.below (hB.trans (hb6.mono hB.size)))
        clear hIK hb6 x13 y0 y1 y2 y3 y4 y5 y6 y7 y8 y9 y10 y11 y12 y13 HD HI2 HY HO hB
        go_wp2_with fail
        go_loopw [12] (fun i wx => ∃ k : Nat, k ≤ ZK.length ∧ i = .int .i64 k ∧ Below w6.heap.size w6 wx) (fun i _ => ZK.length - (intOf i).toNat)
        case atStart => exact ⟨0, Nat.zero_le _, rfl, by (with_reducible repeat first | exact Below.refl _ _ | assumption | ((first | refine Below.setCell ?_ ?_ _ | refine Below.alloc ?_ ?_ _); rotate_left; exact (by first | omega | (simp; done) | (simp; omega))) | refine Below.drew ?_ | refine Below_drewN ?_ _)⟩
        case round =>
          obtain ⟨k, hk, rfl, hX⟩ := hrel
          have sX := hX.size
          have kn : ((k : Int)).toNat = k := by omega
          have k0 : (0 : Int) ≤ k := by omega
          by_cases hkl : k < ZK.length
          · obtain ⟨x, hx⟩ : ∃ x, ZK[k]? = some x := ⟨_, List.getElem?_eq_getElem hkl⟩
            have HA := Lib.hid (HIN.out x (List.mem_of_getElem? hx))
            have Hx := Lib.hid hx
            clear hx
            obtain ⟨x1, x2, x3⟩ := x
            go_wp2_with fail
            go_loopw [13, 14] (fun s13 i wy => ∃ n : Nat, n ≤ ZL.length ∧ i = .int .i64 n ∧ s13 = .bool ((ZL.take n).any (inB3 (x1, x2, x3))) ∧ Below w6.heap.size w6 wy) (fun _ i _ => ZL.length - (intOf i).toNat)
            case atStart => exact ⟨0, Nat.zero_le _, rfl, rfl, by (with_reducible repeat first | exact Below.refl _ _ | assumption | ((first | refine Below.setCell ?_ ?_ _ | refine Below.alloc ?_ ?_ _); rotate_left; exact (by first | omega | (simp; done) | (simp; omega))) | refine Below.drew ?_ | refine Below_drewN ?_ _)⟩
            case round =>
              obtain ⟨n, hn, rfl, rfl, hY⟩ := hrel
              have sY := hY.size
              have nn : ((n : Int)).toNat = n := by omega
              have n0 : (0 : Int) ≤ n := by omega
              by_cases hnl : n < ZL.length
              · obtain ⟨-, hck⟩ := HIK.out.below hY
                obtain ⟨bk, ok, rfl, hbk, hcK⟩ := hck (by omega)
                obtain ⟨-, hcl⟩ := HLL.out.below hY
                obtain ⟨bl, ol, rfl, hbl, hcL⟩ := hcl (by omega)
                obtain ⟨y, hy⟩ : ∃ y, ZL[n]? = some y := ⟨_, List.getElem?_eq_getElem hnl⟩
                have a0 : wr.cell? ⟨bk, ok + k * 3, none⟩ = some (.int .i64 x1) := by have h := hcK k _ Hx.out 0 _ rfl; simpa using h
                have a1 : wr.cell? ⟨bk, ok + k * 3 + 1, none⟩ = some (.int .i64 x2) := by have h := hcK k _ Hx.out 1 _ rfl; simpa using h
                have a2 : wr.cell? ⟨bk, ok + k * 3 + 2, none⟩ = some (.int .i64 x3) := by have h := hcK k _ Hx.out 2 _ rfl; simpa using h
                have c0 : wr.cell? ⟨bl, ol + n * 3, none⟩ = some (.int .i64 y.1) := by have h := hcL n _ hy 0 _ rfl; simpa using h
                have c1 : wr.cell? ⟨bl, ol + n * 3 + 1, none⟩ = some (.int .i64 y.2.1) := by have h := hcL n _ hy 1 _ rfl; simpa using h
                have c2 : wr.cell? ⟨bl, ol + n * 3 + 2, none⟩ = some (.int .i64 y.2.2) := by have h := hcL n _ hy 2 _ rfl; simpa using h
                have HS := Lib.hid (any_snoc (inB3 (x1, x2, x3)) hy)
                obtain ⟨y1, y2, y3⟩ := y
                dsimp only at c0 c1 c2
                clear hck hcK hcl hcL hy
                generalize (ZL.take n).any (inB3 (x1, x2, x3)) = q at *
                cases q
                · by_cases d1 : y1 = x1
                  · subst d1
                    by_cases d2 : y2 ≤ x2
                    · by_cases d3 : x3 ≤ y3
                      · have b2 : decide (y2 ≤ x2) = true := decide_eq_true d2
                        have b3 : decide (x3 ≤ y3) = true := decide_eq_true d3
                        have HN : Hid ((ZL.take (n + 1)).any (inB3 (y1, x2, x3)) = true) := Lib.hid (by rw [HS.out]; simp [inB3, *])
                        clear HS
                        go_wp2_with fail
                        go_quiet (fail)
                        go_wp2_with fail
                        go_roundw
                        case rel => exact ⟨n + 1, by omega, by go_num, by rw [HN.out], by (with_reducible repeat first | exact Below.refl _ _ | assumption | ((first | refine Below.setCell ?_ ?_ _ | refine Below.alloc ?_ ?_ _); rotate_left; exact (by first | omega | (simp; done) | (simp; omega))) | refine Below.drew ?_ | refine Below_drewN ?_ _)⟩
                        case measure => simp [intOf]; omega
                      · have b2 : decide (y2 ≤ x2) = true := decide_eq_true d2
                        have b3 : decide (x3 ≤ y3) = false := decide_eq_false d3
                        have HN : Hid ((ZL.take (n + 1)).any (inB3 (y1, x2, x3)) = false) := Lib.hid (by rw [HS.out]; simp [inB3, *])
                        clear HS
                        go_wp2_with fail
                        go_quiet (fail)
                        go_wp2_with fail
                        go_roundw
                        case rel => exact ⟨n + 1, by omega, by go_num, by rw [HN.out], by (with_reducible repeat first | exact Below.refl _ _ | assumption | ((first | refine Below.setCell ?_ ?_ _ | refine Below.alloc ?_ ?_ _); rotate_left; exact (by first | omega | (simp; done) | (simp; omega))) | refine Below.drew ?_ | refine Below_drewN ?_ _)⟩
                        case measure => simp [intOf]; omega
                    · have b2 : decide (y2 ≤ x2) = false := decide_eq_false d2
                      have HN : Hid ((ZL.take (n + 1)).any (inB3 (y1, x2, x3)) = false) := Lib.hid (by rw [HS.out]; simp [inB3, *])
                      clear HS
                      go_wp2_with fail
                      go_quiet (fail)
                      go_wp2_with fail
                      go_roundw
                      case rel => exact ⟨n + 1, by omega, by go_num, by rw [HN.out], by (with_reducible repeat first | exact Below.refl _ _ | assumption | ((first | refine Below.setCell ?_ ?_ _ | refine Below.alloc ?_ ?_ _); rotate_left; exact (by first | omega | (simp; done) | (simp; omega))) | refine Below.drew ?_ | refine Below_drewN ?_ _)⟩
                      case measure => simp [intOf]; omega
                  · have b1 : (y1 == x1) = false := by rw [beq_eq_false_iff_ne]; exact d1
                    have HN : Hid ((ZL.take (n + 1)).any (inB3 (x1, x2, x3)) = false) := Lib.hid (by rw [HS.out]; simp [inB3, *])
                    clear HS
                    go_wp2_with fail
                    go_quiet (fail)
                    go_wp2_with fail
                    go_roundw
                    case rel => exact ⟨n + 1, by omega, by go_num, by rw [HN.out], by (with_reducible repeat first | exact Below.refl _ _ | assumption | ((first | refine Below.setCell ?_ ?_ _ | refine Below.alloc ?_ ?_ _); rotate_left; exact (by first | omega | (simp; done) | (simp; omega))) | refine Below.drew ?_ | refine Below_drewN ?_ _)⟩
                    case measure => simp [intOf]; omega
                · have HN : Hid ((ZL.take (n + 1)).any (inB3 (x1, x2, x3)) = true) := Lib.hid (by rw [HS.out]; simp [inB3, *])
                  clear HS
                  go_wp2_with fail
                  go_quiet (fail)
                  go_wp2_with fail
                  go_roundw
                  case rel => exact ⟨n + 1, by omega, by go_num, by rw [HN.out], by (with_reducible repeat first | exact Below.refl _ _ | assumption | ((first | refine Below.setCell ?_ ?_ _ | refine Below.alloc ?_ ?_ _); rotate_left; exact (by first | omega | (simp; done) | (simp; omega))) | refine Below.drew ?_ | refine Below_drewN ?_ _)⟩
                  case measure => simp [intOf]; omega
              · obtain rfl : n = ZL.length := by omega
                have hA := HA.out
                rw [List.take_of_length_le (Nat.le_refl _), hA]
                clear hA
                go_wp2_with fail
                go_roundw
                case rel => exact ⟨k + 1, by omega, by go_num, by (with_reducible repeat first | exact Below.refl _ _ | assumption | ((first | refine Below.setCell ?_ ?_ _ | refine Below.alloc ?_ ?_ _); rotate_left; exact (by first | omega | (simp; done) | (simp; omega))) | refine Below.drew ?_ | refine Below_drewN ?_ _)⟩
                case measure => simp [intOf]; omega
          · have hBX := hB6.trans (hX.mono hB6.size)
            go_wp2_with fail
            refine (awake_any _).mono ?_
            rintro e wz ⟨rfl, hb⟩
            have hBz := hBX.trans (hb.mono hBX.size)
            clear hb
            go_wp2_with fail
            go_ret
            exact ⟨rfl, by (with_reducible repeat first | exact Below.refl _ _ | assumption | ((first | refine Below.setCell ?_ ?_ _ | refine Below.alloc ?_ ?_ _); rotate_left; exact (by first | omega | (simp; done) | (simp; omega))) | refine Below.drew ?_ | refine Below_drewN ?_ _)⟩

end Go.Proofs.YtfpjhobhmcfpnabDoor
end
