import Derived.Test.YtjjajleiladbhaaGreatDoorLAD
import Derived.Deep.RegionHeld3
import Derived.Deep.DeepCutAuto
import Derived.Deep.QuietTactic
import Derived.BigQuiet
import Derived.IntWalk
import Derived.Shelf.Abstract
section
/- Package machine: contracts of cells, cellPlace, checkGrid, over this seat's translation. -/
namespace Go.Proofs.YtjjajleiladbhaaGreatDoor
set_option linter.unusedVariables false
set_option linter.unusedSimpArgs false
open Go.RowKit

/-- A struct of two cells behind a region, as the one result. -/
theorem resQ {fn : Func} {p : Tmp} (h : fn.results = #[.cell p 40]) (tmps : Array Value) (W : World) (b : Nat) (x y : Value)
    (hp : tmps.getD p undef = .pointer (some ⟨b, 0, none⟩)) (h0 : (W.cell? ⟨b, 0, none⟩).isSome = true) (h1 : (W.cell? ⟨b, 1, none⟩).isSome = true) :
    (results fn tmps).run Tryz.prog ((W.setCell ⟨b, 0, none⟩ x).setCell ⟨b, 1, none⟩ y).drew = .ok (.agg #[x, y]) ((W.setCell ⟨b, 0, none⟩ x).setCell ⟨b, 1, none⟩ y).drew := by
  have n1 : (⟨b, 1, none⟩ : Addr) ≠ ⟨b, 0, none⟩ := by simp
  have n0 : (⟨b, 0, none⟩ : Addr) ≠ ⟨b, 1, none⟩ := by simp
  have e1 : ((W.setCell ⟨b, 0, none⟩ x).setCell ⟨b, 1, none⟩ y).drew.cell? ⟨b, 0, none⟩ = some x := by
    rw [World.cell?_drew]; exact (World.cell?_setCell_other _ _ _ _ n1).trans (World.cell?_setCell_same' _ _ _ h0)
  have e2 : ((W.setCell ⟨b, 0, none⟩ x).setCell ⟨b, 1, none⟩ y).drew.cell? ⟨b, 1, none⟩ = some y := by
    rw [World.cell?_drew]; exact World.cell?_setCell_same' _ _ _ (by rw [World.cell?_setCell_other _ _ _ _ n0]; exact h1)
  have hp' : tmps[p]?.getD undef = .pointer (some ⟨b, 0, none⟩) := by simpa using hp
  simp only [results, h]
  simp [Sem.run_bind, Result.andThen, go_sem, hp', e1, e2]

abbrev GridD.v (g : GridD) : Value := .agg #[.int .i64 g.r, .int .i64 g.z, .int .i64 g.nr, .int .i64 g.nz, .int .i64 g.step]

/-- A grid whose cells can be reckoned. -/
structure GridD.Fine (g : GridD) : Prop where
  r0 : -60 ≤ g.r
  r1 : g.r ≤ 60
  z0 : -60 ≤ g.z
  z1 : g.z ≤ 60
  n0 : 1 ≤ g.nr
  n1 : g.nr ≤ 8
  k0 : 1 ≤ g.nz
  k1 : g.nz ≤ 8
  s0 : 1 ≤ g.step
  s1 : g.step ≤ 10
theorem wthn_iff {n a b : Int} : wthn n a b = true ↔ a ≤ n ∧ n ≤ b := by simp [wthn]
theorem nearB_iff {r z f : Int} : nearB r z f = true ↔ (-f ≤ r ∧ r ≤ f) ∧ -f ≤ z ∧ z ≤ f := by simp [nearB, wthn_iff]
theorem fine_of {g : GridD} (h1 : (wthn g.nr 1 8 && (wthn g.nz 1 8 && wthn g.step 1 10)) = true) (h2 : nearB g.r g.z 60 = true) : g.Fine := by
  simp only [Bool.and_eq_true, wthn_iff] at h1
  rw [nearB_iff] at h2
  exact ⟨h2.1.1, h2.1.2, h2.2.1, h2.2.2, h1.1.1, h1.1.2, h1.2.1.1, h1.2.1.2, h1.2.2.1, h1.2.2.2⟩

theorem mul_small {a b x y : Int} (a0 : 0 ≤ a) (a1 : a ≤ x) (b0 : 0 ≤ b) (b1 : b ≤ y) : 0 ≤ a * b ∧ a * b ≤ x * y :=
  ⟨Int.mul_nonneg a0 b0, Int.mul_le_mul a1 b1 b0 (by omega)⟩
theorem cell_bd {g : GridD} (h : g.Fine) {i : Int} (i0 : 0 ≤ i) (i1 : i ≤ 1000) : (0 ≤ i % g.nr * g.step ∧ i % g.nr * g.step ≤ 80) ∧ (0 ≤ i / g.nr * g.step ∧ i / g.nr * g.step ≤ 10000) := by
  obtain ⟨r0, r1, z0, z1, n0, n1, k0, k1, s0, s1⟩ := h
  have a0 := Int.emod_nonneg i (show g.nr ≠ 0 by omega)
  have a1 := Int.emod_lt_of_pos i (show 0 < g.nr by omega)
  have b0 := Int.ediv_nonneg i0 (show 0 ≤ g.nr by omega)
  have b1 := Int.ediv_le_self g.nr i0
  exact ⟨mul_small (x := 8) (y := 10) a0 (by omega) (by omega) s1, mul_small (x := 1000) (y := 10) b0 (by omega) (by omega) s1⟩

set_option maxHeartbeats 2000000 in
theorem cellPlace_any (g : GridD) (i : Int) (w : World) (h : g.Fine) (i0 : 0 ≤ i) (i1 : i ≤ 1000) :
    Calls Tryz.prog 76 #[g.v, .int .i64 i] w (Ret (.agg #[.int .i64 (cellR g i), .int .i64 (cellZ g i)]) w) := by
  obtain ⟨⟨p0, p1⟩, q0, q1⟩ := cell_bd h i0 i1
  obtain ⟨r0, r1, z0, z1, n0, n1, k0, k1, s0, s1⟩ := h
  obtain ⟨r, z, nr, nz, step⟩ := g
  dsimp only at *
  have e1 : (nr == 0) = false := by rw [beq_eq_false_iff_ne]; omega
  have e2 : ¬nr = 0 := by omega
  have e3 := Int.tmod_eq_emod_of_nonneg (b := nr) i0
  have e4 := Int.tdiv_eq_ediv_of_nonneg (b := nr) i0
  have e5 : IntKind.i64.wrap (i % nr * step) = i % nr * step := IntWalk.i64_in _ (by omega)
  have e6 : IntKind.i64.wrap (i / nr * step) = i / nr * step := IntWalk.i64_in _ (by omega)
  have b0 := Int.ediv_nonneg i0 (show 0 ≤ nr by omega)
  have b1 := Int.ediv_le_self nr i0
  have e7 : IntKind.i64.wrap (i / nr) = i / nr := IntWalk.i64_in _ (by omega)
  have HR : Hid (IntKind.i64.wrap (r + IntKind.i64.wrap (i % nr * step)) = cellR ⟨r, z, nr, nz, step⟩ i) := Lib.hid (by rw [e5, IntWalk.i64_in _ (by omega)]; rfl)
  have HZ : Hid (IntKind.i64.wrap (z + IntKind.i64.wrap (i / nr * step)) = cellZ ⟨r, z, nr, nz, step⟩ i) := Lib.hid (by rw [e6, IntWalk.i64_in _ (by omega)]; rfl)
  generalize cellR ⟨r, z, nr, nz, step⟩ i = R at *
  generalize cellZ ⟨r, z, nr, nz, step⟩ i = Z at *
  clear e5 e6 p0 p1 q0 q1
  generalize i % nr = M at *
  generalize i / nr = D at *
  show Calls Tryz.prog 76 #[.agg #[.int .i64 r, .int .i64 z, .int .i64 nr, .int .i64 nz, .int .i64 step], .int .i64 i] w _
  go_enter Tryz.func76, Tryz.ntmps76
  go_upto_region 0 with fail
  go_cut [2, 4] (fun s2 s4 wx => s2 = .pointer (some ⟨w.heap.size, 0, none⟩) ∧ s4 = .pointer (some ⟨w.heap.size + 1, 0, none⟩) ∧ wx.cell? ⟨w.heap.size, 0, none⟩ = some (.int .i64 r) ∧ wx.cell? ⟨w.heap.size, 1, none⟩ = some (.int .i64 z) ∧ wx.cell? ⟨w.heap.size, 2, none⟩ = some (.int .i64 nr) ∧ wx.cell? ⟨w.heap.size, 4, none⟩ = some (.int .i64 step) ∧ w.heap.size + 1 < wx.heap.size ∧ Below w.heap.size w wx ∧ (wx).cell? ⟨w.heap.size + 1, 0, none⟩ = some (cur (wx) ⟨w.heap.size + 1, 0, none⟩) ∧ (wx).frozen? ⟨w.heap.size + 1, 0, none⟩ = false ∧ (wx).cell? ⟨w.heap.size + 1, 1, none⟩ = some (cur (wx) ⟨w.heap.size + 1, 1, none⟩) ∧ (wx).frozen? ⟨w.heap.size + 1, 1, none⟩ = false)
  case first =>
    go_wp2_with fail
    go_meet
    exact ⟨rfl, (by go_simp), (by go_simp), (by go_simp), (by go_simp), (by go_simp), (by first | omega | ((try simp only [World.size_alloc, World.size_setCell, size_drew, size_drewN]); omega) | (simp; done) | (simp; omega)), (by (with_reducible repeat first | exact Below.refl _ _ | assumption | ((first | refine Below.setCell ?_ ?_ _ | refine Below.alloc ?_ ?_ _); rotate_left; exact (by first | omega | (simp; done) | (simp; omega))) | refine Below.drew ?_ | refine Below_drewN ?_ _)), (by simp only [cur_iff]; go_simp), (by go_simp), (by simp only [cur_iff]; go_simp), (by go_simp)⟩
  case rest =>
    obtain ⟨rfl, rfl, c0, c1, c2, c4, hs, hB, k0, q0', k1, q1'⟩ := hcut
    go_wp2_with fail
    have HS : Hid (∀ w' : World, Reg (w.heap.size + 1) (wc) w' → (Reg (w.heap.size + 1) (wc) w' ∧ w'.cell? ⟨w.heap.size, 0, none⟩ = some (.int .i64 r) ∧ w'.cell? ⟨w.heap.size, 1, none⟩ = some (.int .i64 z) ∧ w'.cell? ⟨w.heap.size, 2, none⟩ = some (.int .i64 nr) ∧ w'.cell? ⟨w.heap.size, 4, none⟩ = some (.int .i64 step))) := (fun w' h => by (have hc := h.cells; have hs := h.some; have hf := h.frozen; refine ⟨h, ?_⟩; (try simp only [World.size_alloc, World.size_setCell, size_drew, size_drewN] at hc hs hf); first | (simp (disch := omega) only [hc, hs, hf, cur_iff]; (try go_simp); done) | (simp (disch := first | omega | (simp; done)) only [hc, hs, hf, cur_iff]; (try go_simp); done) | (simp (maxDischargeDepth := 4) [hc, hs, hf, cur_iff, go_sem]; done) | (go_simp; done) | (simp (maxDischargeDepth := 4) [hc, hs, hf, cur_iff, go_sem]; go_simp))); go_region_held3 (fun w' => Reg (w.heap.size + 1) (wc) w' ∧ w'.cell? ⟨w.heap.size, 0, none⟩ = some (.int .i64 r) ∧ w'.cell? ⟨w.heap.size, 1, none⟩ = some (.int .i64 z) ∧ w'.cell? ⟨w.heap.size, 2, none⟩ = some (.int .i64 nr) ∧ w'.cell? ⟨w.heap.size, 4, none⟩ = some (.int .i64 step)) (exact HS.out _ (by (repeat first | with_reducible exact Reg.refl _ _ | with_reducible exact Reg.drewN2 _ _ _ _ | with_reducible exact (‹Reg _ _ _ ∧ _›).1 | (with_reducible refine Reg.setCell ?_ ?_ _; rotate_left; exact (by first | omega | ((try simp only [World.size_alloc, World.size_setCell, size_drew, size_drewN]); omega) | (simp; done) | (simp; omega))) | with_reducible refine Reg.alloc ?_ _ | with_reducible refine Reg.drew ?_ | with_reducible refine Reg.drewN ?_ _ | (with_reducible apply Reg.call; rotate_left; with_reducible assumption)))) (first | fail)
    all_goals go_wp2_with fail
    all_goals exact bodyPost_ret (resQ Tryz.results76 _ _ _ _ _ rfl (by (try simp only [isSome_setCell]); first | assumption | go_simp) (by (try simp only [isSome_setCell]); first | assumption | go_simp)) rfl ⟨by rw [HR.out, HZ.out], by (with_reducible repeat first | exact Below.refl _ _ | assumption | ((first | refine Below.setCell ?_ ?_ _ | refine Below.alloc ?_ ?_ _); rotate_left; exact (by first | omega | (simp; done) | (simp; omega))) | refine Below.drew ?_ | refine Below_drewN ?_ _)⟩

set_option maxHeartbeats 400000 in
theorem cells_any (g : GridD) (w : World) (h0 : 0 ≤ g.nr * g.nz) (h1 : g.nr * g.nz ≤ 1000000) :
    Calls Tryz.prog 75 #[g.v] w (Ret (.int .i64 (g.nr * g.nz)) w) := by
  obtain ⟨r, z, nr, nz, step⟩ := g
  dsimp only at *
  have e5 : IntKind.i64.wrap (nr * nz) = nr * nz := IntWalk.i64_in _ (by omega)
  generalize hP : nr * nz = P at *
  show Calls Tryz.prog 75 #[.agg #[.int .i64 r, .int .i64 z, .int .i64 nr, .int .i64 nz, .int .i64 step]] w _
  go_enter Tryz.func75, Tryz.ntmps75
  go_wp2
  go_ret
  exact ⟨rfl, by (with_reducible repeat first | exact Below.refl _ _ | assumption | ((first | refine Below.setCell ?_ ?_ _ | refine Below.alloc ?_ ?_ _); rotate_left; exact (by first | omega | (simp; done) | (simp; omega))) | refine Below.drew ?_ | refine Below_drewN ?_ _)⟩

end Go.Proofs.YtjjajleiladbhaaGreatDoor
end
section
/- slices.IndexFunc and ContainsFunc over []Coil, over this seat's translation (written by mk_mac.py). -/
namespace Go.Proofs.YtjjajleiladbhaaGreatDoor
set_option linter.unusedVariables false
set_option linter.unusedSimpArgs false
open Go.RowKit

set_option maxHeartbeats 2000000 in
theorem indexCoil1 (k : Nat) (c0 : Nat) (p : CoilD → Bool) (A : Option Addr) (len cap : Nat) (zs : List CoilD) (w : World) (hI : IsT 8 CoilD.cells w A len zs) (hl : len ≤ 1000000000000000)
    (hE : ∀ (args : Array Value) (W : World), (callFunc k args).run Tryz.prog W = .ok (.enter k args) W)
    (hk : ∀ (x : CoilD) (W : World), x ∈ zs → Below w.heap.size w W → Calls Tryz.prog k #[CoilD.v x, .pointer (some ⟨c0, 0, none⟩)] W (Ret (.bool (p x)) W)) :
    Calls Tryz.prog 100 #[.slice A len cap, .func (.func k) #[] #[.pointer (some ⟨c0, 0, none⟩)]] w (Ret (.int .i64 (idxL p zs)) w) := by
  have HI := Lib.hid hI
  have HK := Lib.hid hk
  have HG : Hid (idxL p zs = idxGo p zs 0) := Lib.hid rfl
  generalize idxL p zs = G at *
  clear hI hk
  go_enter Tryz.func100, Tryz.ntmps100
  go_wp2_with fail
  go_loopw [5, 8] (fun _ i wr => ∃ j : Nat, j ≤ len ∧ i = .int .i64 j ∧ Hid (idxGo p (zs.drop j) j = G) ∧ Below w.heap.size w wr) (fun _ i _ => len - (intOf i).toNat)
  case atStart => exact ⟨0, Nat.zero_le _, rfl, Lib.hid HG.out.symm, Below.refl _ _⟩
  case round =>
    obtain ⟨j, hj, rfl, hG, hB⟩ := hrel
    by_cases hlt : j < len
    · obtain ⟨hzl, hcl⟩ := HI.out.below hB
      obtain ⟨b, o, rfl, hb0, hcl⟩ := hcl (by omega)
      obtain ⟨x, hx⟩ : ∃ x, zs[j]? = some x := ⟨_, List.getElem?_eq_getElem (by omega)⟩
      have HM := Lib.hid (List.mem_of_getElem? hx)
      have HS := Lib.hid (idxGo_drop p hx (j : Int))
      have x0 : wr.cell? ⟨b, o + j * 8, none⟩ = some (.string x.name) := by have h := hcl j x hx 0 _ rfl; simpa using h
      have x1 : wr.cell? ⟨b, o + j * 8 + 1, none⟩ = some (.int .i64 x.r) := by have h := hcl j x hx 1 _ rfl; simpa using h
      have x2 : wr.cell? ⟨b, o + j * 8 + 2, none⟩ = some (.int .i64 x.z) := by have h := hcl j x hx 2 _ rfl; simpa using h
      have x3 : wr.cell? ⟨b, o + j * 8 + 3, none⟩ = some (.int .i64 x.turns) := by have h := hcl j x hx 3 _ rfl; simpa using h
      have x4 : wr.cell? ⟨b, o + j * 8 + 4, none⟩ = some (.int .i64 x.cur) := by have h := hcl j x hx 4 _ rfl; simpa using h
      have x5 : wr.cell? ⟨b, o + j * 8 + 5, none⟩ = some (.int .i64 x.step) := by have h := hcl j x hx 5 _ rfl; simpa using h
      have x6 : wr.cell? ⟨b, o + j * 8 + 6, none⟩ = some (.int .i64 x.heat) := by have h := hcl j x hx 6 _ rfl; simpa using h
      have x7 : wr.cell? ⟨b, o + j * 8 + 7, none⟩ = some (.int .i64 x.cool) := by have h := hcl j x hx 7 _ rfl; simpa using h
      have hsz := hB.size
      have HC := Lib.hid (HK.out x)
      clear hcl hx hzl
      cases hp : p x
      · have HN : Hid (idxGo p (zs.drop (j + 1)) ((j + 1 : Nat) : Int) = G) := Lib.hid (by rw [← hG.out, HS.out, hp]; rfl)
        have HC := Lib.hid (show ∀ W, Below w.heap.size w W → Calls Tryz.prog k #[CoilD.v x, .pointer (some ⟨c0, 0, none⟩)] W (Ret (.bool false) W) from fun W h => by have := HC.out W HM.out h; rwa [hp] at this)
        clear hp
        go_wp2_with ((with_reducible show Calls _ k _ _ _); refine (HC.out _ (by (with_reducible repeat first | exact Below.refl _ _ | assumption | ((first | refine Below.setCell ?_ ?_ _ | refine Below.alloc ?_ ?_ _); rotate_left; exact (by first | omega | (simp; done) | (simp; omega))) | refine Below.drew ?_ | refine Below_drewN ?_ _))).mono ?_; rintro e w1 ⟨rfl, hb⟩; have hB1 : Below w.heap.size w w1 := Below.trans (by (with_reducible repeat first | exact Below.refl _ _ | assumption | ((first | refine Below.setCell ?_ ?_ _ | refine Below.alloc ?_ ?_ _); rotate_left; exact (by first | omega | (simp; done) | (simp; omega))) | refine Below.drew ?_ | refine Below_drewN ?_ _)) (hb.mono (by first | omega | ((try simp only [World.size_alloc, World.size_setCell, size_drew, size_drewN]); omega) | (simp; done) | (simp; omega))))
        go_roundw
        case rel => exact ⟨j + 1, by omega, by go_num, HN, by (with_reducible repeat first | exact Below.refl _ _ | assumption | ((first | refine Below.setCell ?_ ?_ _ | refine Below.alloc ?_ ?_ _); rotate_left; exact (by first | omega | (simp; done) | (simp; omega))) | refine Below.drew ?_ | refine Below_drewN ?_ _)⟩
        case measure => simp [intOf]; omega
      · have HN : Hid ((j : Int) = G) := Lib.hid (by rw [← hG.out, HS.out, hp]; rfl)
        have HC := Lib.hid (show ∀ W, Below w.heap.size w W → Calls Tryz.prog k #[CoilD.v x, .pointer (some ⟨c0, 0, none⟩)] W (Ret (.bool true) W) from fun W h => by have := HC.out W HM.out h; rwa [hp] at this)
        clear hp
        go_wp2_with ((with_reducible show Calls _ k _ _ _); refine (HC.out _ (by (with_reducible repeat first | exact Below.refl _ _ | assumption | ((first | refine Below.setCell ?_ ?_ _ | refine Below.alloc ?_ ?_ _); rotate_left; exact (by first | omega | (simp; done) | (simp; omega))) | refine Below.drew ?_ | refine Below_drewN ?_ _))).mono ?_; rintro e w1 ⟨rfl, hb⟩; have hB1 : Below w.heap.size w w1 := Below.trans (by (with_reducible repeat first | exact Below.refl _ _ | assumption | ((first | refine Below.setCell ?_ ?_ _ | refine Below.alloc ?_ ?_ _); rotate_left; exact (by first | omega | (simp; done) | (simp; omega))) | refine Below.drew ?_ | refine Below_drewN ?_ _)) (hb.mono (by first | omega | ((try simp only [World.size_alloc, World.size_setCell, size_drew, size_drewN]); omega) | (simp; done) | (simp; omega))))
        go_ret
        exact ⟨by rw [← HN.out]; rfl, by (with_reducible repeat first | exact Below.refl _ _ | assumption | ((first | refine Below.setCell ?_ ?_ _ | refine Below.alloc ?_ ?_ _); rotate_left; exact (by first | omega | (simp; done) | (simp; omega))) | refine Below.drew ?_ | refine Below_drewN ?_ _)⟩
    · have HN : Hid ((-1 : Int) = G) := Lib.hid (by rw [← hG.out, List.drop_of_length_le (by rw [HI.out.1]; omega)]; rfl)
      go_wp2
      go_ret
      exact ⟨by rw [← HN.out]; rfl, hB⟩

end Go.Proofs.YtjjajleiladbhaaGreatDoor
end
section
/- slices.IndexFunc and ContainsFunc over []Sensor, over this seat's translation (written by mk_mac.py). -/
namespace Go.Proofs.YtjjajleiladbhaaGreatDoor
set_option linter.unusedVariables false
set_option linter.unusedSimpArgs false
open Go.RowKit

set_option maxHeartbeats 2000000 in
theorem indexSensor1 (k : Nat) (c0 : Nat) (p : SensorD → Bool) (A : Option Addr) (len cap : Nat) (zs : List SensorD) (w : World) (hI : IsT 5 SensorD.cells w A len zs) (hl : len ≤ 1000000000000000)
    (hE : ∀ (args : Array Value) (W : World), (callFunc k args).run Tryz.prog W = .ok (.enter k args) W)
    (hk : ∀ (x : SensorD) (W : World), x ∈ zs → Below w.heap.size w W → Calls Tryz.prog k #[SensorD.v x, .pointer (some ⟨c0, 0, none⟩)] W (Ret (.bool (p x)) W)) :
    Calls Tryz.prog 102 #[.slice A len cap, .func (.func k) #[] #[.pointer (some ⟨c0, 0, none⟩)]] w (Ret (.int .i64 (idxL p zs)) w) := by
  have HI := Lib.hid hI
  have HK := Lib.hid hk
  have HG : Hid (idxL p zs = idxGo p zs 0) := Lib.hid rfl
  generalize idxL p zs = G at *
  clear hI hk
  go_enter Tryz.func102, Tryz.ntmps102
  go_wp2_with fail
  go_loopw [5, 8] (fun _ i wr => ∃ j : Nat, j ≤ len ∧ i = .int .i64 j ∧ Hid (idxGo p (zs.drop j) j = G) ∧ Below w.heap.size w wr) (fun _ i _ => len - (intOf i).toNat)
  case atStart => exact ⟨0, Nat.zero_le _, rfl, Lib.hid HG.out.symm, Below.refl _ _⟩
  case round =>
    obtain ⟨j, hj, rfl, hG, hB⟩ := hrel
    by_cases hlt : j < len
    · obtain ⟨hzl, hcl⟩ := HI.out.below hB
      obtain ⟨b, o, rfl, hb0, hcl⟩ := hcl (by omega)
      obtain ⟨x, hx⟩ : ∃ x, zs[j]? = some x := ⟨_, List.getElem?_eq_getElem (by omega)⟩
      have HM := Lib.hid (List.mem_of_getElem? hx)
      have HS := Lib.hid (idxGo_drop p hx (j : Int))
      have x0 : wr.cell? ⟨b, o + j * 5, none⟩ = some (.string x.name) := by have h := hcl j x hx 0 _ rfl; simpa using h
      have x1 : wr.cell? ⟨b, o + j * 5 + 1, none⟩ = some (.int .i64 x.kind) := by have h := hcl j x hx 1 _ rfl; simpa using h
      have x2 : wr.cell? ⟨b, o + j * 5 + 2, none⟩ = some (.int .i64 x.r) := by have h := hcl j x hx 2 _ rfl; simpa using h
      have x3 : wr.cell? ⟨b, o + j * 5 + 3, none⟩ = some (.int .i64 x.z) := by have h := hcl j x hx 3 _ rfl; simpa using h
      have x4 : wr.cell? ⟨b, o + j * 5 + 4, none⟩ = some (.int .i64 x.error) := by have h := hcl j x hx 4 _ rfl; simpa using h
      have hsz := hB.size
      have HC := Lib.hid (HK.out x)
      clear hcl hx hzl
      cases hp : p x
      · have HN : Hid (idxGo p (zs.drop (j + 1)) ((j + 1 : Nat) : Int) = G) := Lib.hid (by rw [← hG.out, HS.out, hp]; rfl)
        have HC := Lib.hid (show ∀ W, Below w.heap.size w W → Calls Tryz.prog k #[SensorD.v x, .pointer (some ⟨c0, 0, none⟩)] W (Ret (.bool false) W) from fun W h => by have := HC.out W HM.out h; rwa [hp] at this)
        clear hp
        go_wp2_with ((with_reducible show Calls _ k _ _ _); refine (HC.out _ (by (with_reducible repeat first | exact Below.refl _ _ | assumption | ((first | refine Below.setCell ?_ ?_ _ | refine Below.alloc ?_ ?_ _); rotate_left; exact (by first | omega | (simp; done) | (simp; omega))) | refine Below.drew ?_ | refine Below_drewN ?_ _))).mono ?_; rintro e w1 ⟨rfl, hb⟩; have hB1 : Below w.heap.size w w1 := Below.trans (by (with_reducible repeat first | exact Below.refl _ _ | assumption | ((first | refine Below.setCell ?_ ?_ _ | refine Below.alloc ?_ ?_ _); rotate_left; exact (by first | omega | (simp; done) | (simp; omega))) | refine Below.drew ?_ | refine Below_drewN ?_ _)) (hb.mono (by first | omega | ((try simp only [World.size_alloc, World.size_setCell, size_drew, size_drewN]); omega) | (simp; done) | (simp; omega))))
        go_roundw
        case rel => exact ⟨j + 1, by omega, by go_num, HN, by (with_reducible repeat first | exact Below.refl _ _ | assumption | ((first | refine Below.setCell ?_ ?_ _ | refine Below.alloc ?_ ?_ _); rotate_left; exact (by first | omega | (simp; done) | (simp; omega))) | refine Below.drew ?_ | refine Below_drewN ?_ _)⟩
        case measure => simp [intOf]; omega
      · have HN : Hid ((j : Int) = G) := Lib.hid (by rw [← hG.out, HS.out, hp]; rfl)
        have HC := Lib.hid (show ∀ W, Below w.heap.size w W → Calls Tryz.prog k #[SensorD.v x, .pointer (some ⟨c0, 0, none⟩)] W (Ret (.bool true) W) from fun W h => by have := HC.out W HM.out h; rwa [hp] at this)
        clear hp
        go_wp2_with ((with_reducible show Calls _ k _ _ _); refine (HC.out _ (by (with_reducible repeat first | exact Below.refl _ _ | assumption | ((first | refine Below.setCell ?_ ?_ _ | refine Below.alloc ?_ ?_ _); rotate_left; exact (by first | omega | (simp; done) | (simp; omega))) | refine Below.drew ?_ | refine Below_drewN ?_ _))).mono ?_; rintro e w1 ⟨rfl, hb⟩; have hB1 : Below w.heap.size w w1 := Below.trans (by (with_reducible repeat first | exact Below.refl _ _ | assumption | ((first | refine Below.setCell ?_ ?_ _ | refine Below.alloc ?_ ?_ _); rotate_left; exact (by first | omega | (simp; done) | (simp; omega))) | refine Below.drew ?_ | refine Below_drewN ?_ _)) (hb.mono (by first | omega | ((try simp only [World.size_alloc, World.size_setCell, size_drew, size_drewN]); omega) | (simp; done) | (simp; omega))))
        go_ret
        exact ⟨by rw [← HN.out]; rfl, by (with_reducible repeat first | exact Below.refl _ _ | assumption | ((first | refine Below.setCell ?_ ?_ _ | refine Below.alloc ?_ ?_ _); rotate_left; exact (by first | omega | (simp; done) | (simp; omega))) | refine Below.drew ?_ | refine Below_drewN ?_ _)⟩
    · have HN : Hid ((-1 : Int) = G) := Lib.hid (by rw [← hG.out, List.drop_of_length_le (by rw [HI.out.1]; omega)]; rfl)
      go_wp2
      go_ret
      exact ⟨by rw [← HN.out]; rfl, hB⟩

end Go.Proofs.YtjjajleiladbhaaGreatDoor
end
section
/- Package machine: contracts of checkGrid, coilNamed, sensorNamed, checkCoil, checkShell, checkSensor, over this seat's translation. -/
namespace Go.Proofs.YtjjajleiladbhaaGreatDoor
set_option linter.unusedVariables false
set_option linter.unusedSimpArgs false
open Go.RowKit Go.Shelf

theorem str_beq (a b : ByteArray) : (a.toList == b.toList) = decide (a = b) := by
  rw [ByteArray.toList_eq, ByteArray.toList_eq]
  by_cases h : a = b
  · subst h; simp
  · have h2 : ¬a.data = b.data := fun e => h (by cases a; cases b; simp at e; simp [e])
    simp [h, h2]

set_option maxHeartbeats 1000000 in
theorem coilNamed1_any (x : CoilD) (s : ByteArray) (c0 : Nat) (w : World) (h0 : c0 < w.heap.size) (hc : w.cell? ⟨c0, 0, none⟩ = some (.string s)) :
    Calls Tryz.prog 101 #[x.v, .pointer (some ⟨c0, 0, none⟩)] w (Ret (.bool (decide (x.name = s))) w) := by
  obtain ⟨name, r, z, turns, cur, step, heat, cool⟩ := x
  dsimp only
  have hq := str_beq name s
  show Calls Tryz.prog 101 #[.agg #[.string name, .int .i64 r, .int .i64 z, .int .i64 turns, .int .i64 cur, .int .i64 step, .int .i64 heat, .int .i64 cool], .pointer (some ⟨c0, 0, none⟩)] w _
  go_enter Tryz.func101, Tryz.ntmps101
  go_wp2
  go_ret
  exact ⟨rfl, by (with_reducible repeat first | exact Below.refl _ _ | assumption | ((first | refine Below.setCell ?_ ?_ _ | refine Below.alloc ?_ ?_ _); rotate_left; exact (by first | omega | (simp; done) | (simp; omega))) | refine Below.drew ?_ | refine Below_drewN ?_ _)⟩

set_option maxHeartbeats 1000000 in
theorem sensorNamed1_any (x : SensorD) (s : ByteArray) (c0 : Nat) (w : World) (h0 : c0 < w.heap.size) (hc : w.cell? ⟨c0, 0, none⟩ = some (.string s)) :
    Calls Tryz.prog 103 #[x.v, .pointer (some ⟨c0, 0, none⟩)] w (Ret (.bool (decide (x.name = s))) w) := by
  obtain ⟨name, kind, r, z, error⟩ := x
  dsimp only
  have hq := str_beq name s
  show Calls Tryz.prog 103 #[.agg #[.string name, .int .i64 kind, .int .i64 r, .int .i64 z, .int .i64 error], .pointer (some ⟨c0, 0, none⟩)] w _
  go_enter Tryz.func103, Tryz.ntmps103
  go_wp2
  go_ret
  exact ⟨rfl, by (with_reducible repeat first | exact Below.refl _ _ | assumption | ((first | refine Below.setCell ?_ ?_ _ | refine Below.alloc ?_ ?_ _); rotate_left; exact (by first | omega | (simp; done) | (simp; omega))) | refine Below.drew ?_ | refine Below_drewN ?_ _)⟩

set_option maxHeartbeats 1000000 in
theorem coilNamed_any (A : Option Addr) (len cap : Nat) (zs : List CoilD) (s : ByteArray) (w : World) (hI : IsT 8 CoilD.cells w A len zs) (hl : len ≤ 1000000000000000) :
    Calls Tryz.prog 78 #[.slice A len cap, .string s] w (Ret (.int .i64 (idxL (fun x => decide (x.name = s)) zs)) w) := by
  have HC := Lib.hid (fun W (hb : Below w.heap.size w W) (h0 : w.heap.size < W.heap.size) (hc : W.cell? ⟨w.heap.size, 0, none⟩ = some (.string s)) =>
    indexCoil1 101 w.heap.size (fun x => decide (x.name = s)) A len cap zs W (hI.below hb) hl (fun args W => enters_of Tryz.func101 (by kernel_rfl) rfl args W)
      (fun x W' _ hB => coilNamed1_any x s w.heap.size W' (Nat.lt_of_lt_of_le h0 hB.size) ((hB.cell (p := ⟨w.heap.size, 0, none⟩) h0).trans hc)))
  generalize idxL (fun x : CoilD => decide (x.name = s)) zs = G at *
  clear hI
  go_enter Tryz.func78, Tryz.ntmps78
  go_wp2_with (go_at_call 100; refine (HC.out _ (by (with_reducible repeat first | exact Below.refl _ _ | assumption | ((first | refine Below.setCell ?_ ?_ _ | refine Below.alloc ?_ ?_ _); rotate_left; exact (by first | omega | (simp; done) | (simp; omega))) | refine Below.drew ?_ | refine Below_drewN ?_ _)) (by first | omega | ((try simp only [World.size_alloc, World.size_setCell, size_drew, size_drewN]); omega) | (simp; done) | (simp; omega)) (by go_simp)).mono ?_; rintro e w1 ⟨rfl, hb⟩)
  go_ret
  exact ⟨rfl, Below.trans (by (with_reducible repeat first | exact Below.refl _ _ | assumption | ((first | refine Below.setCell ?_ ?_ _ | refine Below.alloc ?_ ?_ _); rotate_left; exact (by first | omega | (simp; done) | (simp; omega))) | refine Below.drew ?_ | refine Below_drewN ?_ _)) (hb.mono (by first | omega | ((try simp only [World.size_alloc, World.size_setCell, size_drew, size_drewN]); omega) | (simp; done) | (simp; omega)))⟩

set_option maxHeartbeats 1000000 in
theorem sensorNamed_any (A : Option Addr) (len cap : Nat) (zs : List SensorD) (s : ByteArray) (w : World) (hI : IsT 5 SensorD.cells w A len zs) (hl : len ≤ 1000000000000000) :
    Calls Tryz.prog 79 #[.slice A len cap, .string s] w (Ret (.int .i64 (idxL (fun x => decide (x.name = s)) zs)) w) := by
  have HC := Lib.hid (fun W (hb : Below w.heap.size w W) (h0 : w.heap.size < W.heap.size) (hc : W.cell? ⟨w.heap.size, 0, none⟩ = some (.string s)) =>
    indexSensor1 103 w.heap.size (fun x => decide (x.name = s)) A len cap zs W (hI.below hb) hl (fun args W => enters_of Tryz.func103 (by kernel_rfl) rfl args W)
      (fun x W' _ hB => sensorNamed1_any x s w.heap.size W' (Nat.lt_of_lt_of_le h0 hB.size) ((hB.cell (p := ⟨w.heap.size, 0, none⟩) h0).trans hc)))
  generalize idxL (fun x : SensorD => decide (x.name = s)) zs = G at *
  clear hI
  go_enter Tryz.func79, Tryz.ntmps79
  go_wp2_with (go_at_call 102; refine (HC.out _ (by (with_reducible repeat first | exact Below.refl _ _ | assumption | ((first | refine Below.setCell ?_ ?_ _ | refine Below.alloc ?_ ?_ _); rotate_left; exact (by first | omega | (simp; done) | (simp; omega))) | refine Below.drew ?_ | refine Below_drewN ?_ _)) (by first | omega | ((try simp only [World.size_alloc, World.size_setCell, size_drew, size_drewN]); omega) | (simp; done) | (simp; omega)) (by go_simp)).mono ?_; rintro e w1 ⟨rfl, hb⟩)
  go_ret
  exact ⟨rfl, Below.trans (by (with_reducible repeat first | exact Below.refl _ _ | assumption | ((first | refine Below.setCell ?_ ?_ _ | refine Below.alloc ?_ ?_ _); rotate_left; exact (by first | omega | (simp; done) | (simp; omega))) | refine Below.drew ?_ | refine Below_drewN ?_ _)) (hb.mono (by first | omega | ((try simp only [World.size_alloc, World.size_setCell, size_drew, size_drewN]); omega) | (simp; done) | (simp; omega)))⟩

set_option maxRecDepth 100000 in
set_option maxHeartbeats 2000000 in
theorem checkGrid_any (g : GridD) (w : World) :
    Calls Tryz.prog 64 #[g.v] w (Ret (.int .i64 (gridC g)) w) := by
  have HE : Hid (gridC g = if (wthn g.nr 1 8 && (wthn g.nz 1 8 && wthn g.step 1 10)) = true then (if nearB g.r g.z 60 = true then rng (nearB (cellR g (g.nr * g.nz - 1)) (cellZ g (g.nr * g.nz - 1)) 60) else 7) else 7) := Lib.hid rfl
  by_cases hs : (wthn g.nr 1 8 && (wthn g.nz 1 8 && wthn g.step 1 10)) = true
  · by_cases hn : nearB g.r g.z 60 = true
    · have hf := fine_of hs hn
      have hp := mul_small (x := 8) (y := 8) (show 0 ≤ g.nr by have := hf.n0; omega) hf.n1 (show 0 ≤ g.nz by have := hf.k0; omega) hf.k1
      have hp1 : 1 ≤ g.nr * g.nz := by
        have h1 := hf.n0
        have h2 := hf.k0
        have h3 := Int.mul_le_mul h1 h2 (by omega) (by omega)
        omega
      have HC := Lib.hid (fun W => cellPlace_any g (g.nr * g.nz - 1) W hf (by omega) (by omega))
      rw [if_pos hs, if_pos hn] at HE
      simp only [Bool.and_eq_true] at hs
      obtain ⟨s1, s2, s3⟩ := hs
      generalize gridC g = G at *
      generalize cellR g (g.nr * g.nz - 1) = R at *
      generalize cellZ g (g.nr * g.nz - 1) = Z at *
      clear hf
      obtain ⟨r, z, nr, nz, step⟩ := g
      dsimp only at *
      have e5 : IntKind.i64.wrap (nr * nz) = nr * nz := IntWalk.i64_in _ (by omega)
      have e6 : IntKind.i64.wrap (nr * nz - 1) = nr * nz - 1 := IntWalk.i64_in _ (by omega)
      generalize hP : nr * nz = P at *
      have HC := Lib.hid (show ∀ W, Calls Tryz.prog 76 #[.agg #[.int .i64 r, .int .i64 z, .int .i64 nr, .int .i64 nz, .int .i64 step], .int .i64 (P - 1)] W (Ret (.agg #[.int .i64 R, .int .i64 Z]) W) from HC.out)
      show Calls Tryz.prog 64 #[.agg #[.int .i64 r, .int .i64 z, .int .i64 nr, .int .i64 nz, .int .i64 step]] w _
      go_enter Tryz.func64, Tryz.ntmps64
      go_wp2_with (first | (go_at_call 74; refine (mwithin_any _ _ _ _).mono ?_; rintro e w1 ⟨rfl, rfl⟩) | (go_at_call 95; refine (validPlace_any _ _ _).mono ?_; rintro e w1 ⟨rfl, rfl⟩) | (go_at_call 94; refine (checkRange_any _ _).mono ?_; rintro e w1 ⟨rfl, rfl⟩) | (go_at_call 76; refine (HC.out _).mono ?_; rintro e w1 ⟨rfl, hb⟩; have hB : Below w.heap.size w w1 := Below.trans (by (with_reducible repeat first | exact Below.refl _ _ | assumption | ((first | refine Below.setCell ?_ ?_ _ | refine Below.alloc ?_ ?_ _); rotate_left; exact (by first | omega | (simp; done) | (simp; omega))) | refine Below.drew ?_ | refine Below_drewN ?_ _)) (hb.mono (by first | omega | (simp; done) | (simp; omega))); obtain ⟨hc, hf⟩ := bcell hb; have hs := hb.size; clear hb; (try simp only [World.size_alloc, World.size_setCell] at hc hf); (try simp only [World.size_alloc, World.size_setCell] at hs); (try have hs' := Nat.lt_of_succ_le hs); (try have hs0 : w.heap.size < w1.heap.size := by omega); (try have hs1 : w.heap.size + 1 < w1.heap.size := by omega); (try have hs2 : w.heap.size + 1 + 1 < w1.heap.size := by omega); (try have hs3 : w.heap.size + 1 + 1 + 1 < w1.heap.size := by omega)))
      go_ret
      exact ⟨by rw [HE.out]; rfl, by (with_reducible repeat first | exact Below.refl _ _ | assumption | ((first | refine Below.setCell ?_ ?_ _ | refine Below.alloc ?_ ?_ _); rotate_left; exact (by first | omega | (simp; done) | (simp; omega))) | refine Below.drew ?_ | refine Below_drewN ?_ _)⟩
    · rw [if_pos hs, if_neg hn] at HE
      have hn : nearB g.r g.z 60 = false := by simpa using hn
      simp only [Bool.and_eq_true] at hs
      obtain ⟨s1, s2, s3⟩ := hs
      generalize gridC g = G at *
      obtain ⟨r, z, nr, nz, step⟩ := g
      dsimp only at *
      show Calls Tryz.prog 64 #[.agg #[.int .i64 r, .int .i64 z, .int .i64 nr, .int .i64 nz, .int .i64 step]] w _
      go_enter Tryz.func64, Tryz.ntmps64
      go_wp2_with (first | (go_at_call 74; refine (mwithin_any _ _ _ _).mono ?_; rintro e w1 ⟨rfl, rfl⟩) | (go_at_call 95; refine (validPlace_any _ _ _).mono ?_; rintro e w1 ⟨rfl, rfl⟩))
      go_ret
      exact ⟨by rw [HE.out]; rfl, by (with_reducible repeat first | exact Below.refl _ _ | assumption | ((first | refine Below.setCell ?_ ?_ _ | refine Below.alloc ?_ ?_ _); rotate_left; exact (by first | omega | (simp; done) | (simp; omega))) | refine Below.drew ?_ | refine Below_drewN ?_ _)⟩
  · rw [if_neg hs] at HE
    generalize gridC g = G at *
    obtain ⟨r, z, nr, nz, step⟩ := g
    dsimp only at *
    show Calls Tryz.prog 64 #[.agg #[.int .i64 r, .int .i64 z, .int .i64 nr, .int .i64 nz, .int .i64 step]] w _
    have key : ∀ b1 b2 b3 : Bool, wthn nr 1 8 = b1 → wthn nz 1 8 = b2 → wthn step 1 10 = b3 → (b1 && (b2 && b3)) = false → Calls Tryz.prog 64 #[.agg #[.int .i64 r, .int .i64 z, .int .i64 nr, .int .i64 nz, .int .i64 step]] w (Ret (.int .i64 G) w) := by
      intro b1 b2 b3 s1 s2 s3 hb
      cases b1 <;> cases b2 <;> cases b3
      all_goals first | (exfalso; simp at hb; done) | skip
      all_goals clear hb hs
      all_goals go_enter Tryz.func64, Tryz.ntmps64
      all_goals go_wp2_with (go_at_call 74; refine (mwithin_any _ _ _ _).mono ?_; rintro e w1 ⟨rfl, rfl⟩)
      all_goals go_ret
      all_goals exact ⟨by rw [HE.out]; rfl, by (with_reducible repeat first | exact Below.refl _ _ | assumption | ((first | refine Below.setCell ?_ ?_ _ | refine Below.alloc ?_ ?_ _); rotate_left; exact (by first | omega | (simp; done) | (simp; omega))) | refine Below.drew ?_ | refine Below_drewN ?_ _)⟩
    exact key _ _ _ rfl rfl rfl (by simpa using hs)

end Go.Proofs.YtjjajleiladbhaaGreatDoor
end
