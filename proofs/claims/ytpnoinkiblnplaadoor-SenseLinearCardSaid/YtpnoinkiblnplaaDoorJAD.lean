import Derived.Test.YtpnoinkiblnplaaDoorJAA
import Derived.Test.YtpnoinkiblnplaaDoorJAB
import Derived.Test.YtpnoinkiblnplaaDoorJAC
import Derived.Deep.RegionHeld3
import Derived.Deep.DeepCutAuto
import Derived.Deep.QuietTactic
import Derived.BigQuiet
import Derived.IntWalk
import Derived.Ground.Names2Prog
import Derived.Shelf.Slices.Clone
import Derived.Ground.SlgnProg
import Derived.Shelf.SlicesE.Clone
import Derived.Test.YtpnoinkiblnplaaDoorProg
section
/- machine.checkEach over []Sensor, over this seat's translation (written by mk_mac.py). -/
namespace Go.Proofs.YtpnoinkiblnplaaDoor
set_option linter.unusedVariables false
set_option linter.unusedSimpArgs false
open Go.RowKit

set_option maxHeartbeats 4000000 in
theorem eachSensor (k : Nat) (chk : SensorD → List SensorD → Int) (most : Int) (A : Option Addr) (len cap : Nat) (zs : List SensorD) (w : World) (hI : IsT 5 SensorD.cells w A len zs) (hl : len ≤ 1000000000000000) (hcap : len ≤ cap) (hmax : cap ≤ 9223372036854775807)
    (hE : ∀ (args : Array Value) (W : World), (callFunc k args).run Tryd.prog W = .ok (.enter k args) W)
    (hk : ∀ (j : Nat) (x : SensorD) (W : World), zs[j]? = some x → Below w.heap.size w W → Calls Tryd.prog k #[SensorD.v x, .slice A j cap] W (Ret (.int .i64 (chk x (zs.take j))) W)) :
    Calls Tryd.prog 83 #[.slice A len cap, .int .i64 most, .func (.func k) #[] #[]] w (Ret (.int .i64 (eachC chk most zs)) w) := by
  have HI := Lib.hid hI
  have HK := Lib.hid hk
  have hz := hI.1
  by_cases hm : most < len
  · have HG : Hid (eachC chk most zs = 4) := Lib.hid (by unfold eachC; rw [if_pos (by omega)])
    clear hI hk hz
    generalize eachC chk most zs = G at *
    go_enter Tryd.func83, Tryd.ntmps83
    go_wp2_with fail
    go_ret
    exact ⟨by rw [HG.out]; rfl, by (repeat first | with_reducible exact Below.refl _ _ | with_reducible assumption | (with_reducible refine Below.setCell ?_ ?_ _; rotate_left; exact (by first | omega | (simp; done) | (simp; omega))) | (with_reducible refine Below.alloc ?_ ?_ _; rotate_left; exact (by first | omega | (simp; done) | (simp; omega))) | with_reducible refine Below.drew ?_ | with_reducible refine Below_drewN ?_ _)⟩
  have HG : Hid (eachC chk most zs = eachGo chk [] zs) := Lib.hid (by unfold eachC; rw [if_neg (by omega)])
  generalize eachC chk most zs = G at *
  clear hI hk hz
  go_enter Tryd.func83, Tryd.ntmps83
  go_wp2_with fail
  go_loopw [7, 8, 9, 16] (fun _ _ _ i wr => ∃ j : Nat, j ≤ len ∧ i = .int .i64 j ∧ Hid (eachGo chk (zs.take j) (zs.drop j) = G) ∧ Below w.heap.size w wr) (fun _ _ _ i _ => len - (intOf i).toNat)
  case atStart => exact ⟨0, Nat.zero_le _, rfl, Lib.hid HG.out.symm, Below.refl _ _⟩
  case round =>
    obtain ⟨j, hj, rfl, hG, hB⟩ := hrel
    by_cases hlt : j < len
    · obtain ⟨hzl, hcl⟩ := HI.out.below hB
      obtain ⟨b, o, rfl, hb0, hcl⟩ := hcl (by omega)
      obtain ⟨x, hx⟩ : ∃ x, zs[j]? = some x := ⟨_, List.getElem?_eq_getElem (by omega)⟩
      have HS := Lib.hid (eachGo_step chk hx)
      have x0 : wr.cell? ⟨b, o + j * 5, none⟩ = some (.string x.name) := by have h := hcl j x hx 0 _ rfl; simpa using h
      have x1 : wr.cell? ⟨b, o + j * 5 + 1, none⟩ = some (.int .i64 x.kind) := by have h := hcl j x hx 1 _ rfl; simpa using h
      have x2 : wr.cell? ⟨b, o + j * 5 + 2, none⟩ = some (.int .i64 x.r) := by have h := hcl j x hx 2 _ rfl; simpa using h
      have x3 : wr.cell? ⟨b, o + j * 5 + 3, none⟩ = some (.int .i64 x.z) := by have h := hcl j x hx 3 _ rfl; simpa using h
      have x4 : wr.cell? ⟨b, o + j * 5 + 4, none⟩ = some (.int .i64 x.error) := by have h := hcl j x hx 4 _ rfl; simpa using h
      have hsz := hB.size
      have HC := Lib.hid (fun W h => HK.out j x W hx h)
      clear hcl hx hzl
      have HS := Lib.hid (hG.out.symm.trans HS.out)
      obtain ⟨e, he⟩ : ∃ e, chk x (zs.take j) = e := ⟨_, rfl⟩
      rw [he] at HC HS
      clear he hG
      have jc : (j : Int) ≤ cap := by omega
      by_cases h0 : e = 0
      · have HN : Hid (eachGo chk (zs.take (j + 1)) (zs.drop (j + 1)) = G) := Lib.hid (by rw [HS.out, if_pos h0])
        subst h0
        clear HS
        go_upto_region 6 with fail
        go_cut [9] (fun s9 wx => s9 = .int .i64 0 ∧ Below w.heap.size w wx)
        case first =>
          have HS : Hid (∀ w' : World, Reg (wr.heap.size + 1) ((wr.alloc (.cells #[.string x.name, .int .i64 x.kind, .int .i64 x.r, .int .i64 x.z, .int .i64 x.error] 57))) w' → (Reg (wr.heap.size + 1) ((wr.alloc (.cells #[.string x.name, .int .i64 x.kind, .int .i64 x.r, .int .i64 x.z, .int .i64 x.error] 57))) w' ∧ w'.cell? ⟨wr.heap.size, 0, none⟩ = some (.string x.name) ∧ w'.cell? ⟨wr.heap.size, 1, none⟩ = some (.int .i64 x.kind) ∧ w'.cell? ⟨wr.heap.size, 2, none⟩ = some (.int .i64 x.r) ∧ w'.cell? ⟨wr.heap.size, 3, none⟩ = some (.int .i64 x.z) ∧ w'.cell? ⟨wr.heap.size, 4, none⟩ = some (.int .i64 x.error))) := (fun w' h => by (have hc := h.cells; have hs := h.some; have hf := h.frozen; refine ⟨h, ?_⟩; (try simp only [World.size_alloc, World.size_setCell, size_drew, size_drewN] at hc hs hf); first | (simp (disch := omega) only [hc, hs, hf, cur_iff]; (try go_simp); done) | (simp (disch := first | omega | (simp; done)) only [hc, hs, hf, cur_iff]; (try go_simp); done) | (simp (maxDischargeDepth := 4) [hc, hs, hf, cur_iff, go_sem]; done) | (go_simp; done) | (simp (maxDischargeDepth := 4) [hc, hs, hf, cur_iff, go_sem]; go_simp))); go_region_held3 (fun w' => Reg (wr.heap.size + 1) ((wr.alloc (.cells #[.string x.name, .int .i64 x.kind, .int .i64 x.r, .int .i64 x.z, .int .i64 x.error] 57))) w' ∧ w'.cell? ⟨wr.heap.size, 0, none⟩ = some (.string x.name) ∧ w'.cell? ⟨wr.heap.size, 1, none⟩ = some (.int .i64 x.kind) ∧ w'.cell? ⟨wr.heap.size, 2, none⟩ = some (.int .i64 x.r) ∧ w'.cell? ⟨wr.heap.size, 3, none⟩ = some (.int .i64 x.z) ∧ w'.cell? ⟨wr.heap.size, 4, none⟩ = some (.int .i64 x.error)) (exact HS.out _ (by (repeat first | with_reducible exact Reg.refl _ _ | with_reducible exact Reg.drewN2 _ _ _ _ | with_reducible exact (‹Reg _ _ _ ∧ _›).1 | (with_reducible refine Reg.setCell ?_ ?_ _; rotate_left; exact (by first | omega | ((try simp only [World.size_alloc, World.size_setCell, size_drew, size_drewN]); omega) | (simp; done) | (simp; omega))) | with_reducible refine Reg.alloc ?_ _ | with_reducible refine Reg.drew ?_ | with_reducible refine Reg.drewN ?_ _ | (with_reducible apply Reg.call; rotate_left; with_reducible assumption)))) (first | ((with_reducible show Calls _ k _ _ _); refine (HC.out _ (Reg.out (‹Reg _ _ _ ∧ _›).1 (by (repeat first | with_reducible exact Below.refl _ _ | with_reducible assumption | (with_reducible refine Below.setCell ?_ ?_ _; rotate_left; exact (by first | omega | (simp; done) | (simp; omega))) | (with_reducible refine Below.alloc ?_ ?_ _; rotate_left; exact (by first | omega | (simp; done) | (simp; omega))) | with_reducible refine Below.drew ?_ | with_reducible refine Below_drewN ?_ _)) (by first | omega | (simp; done) | (simp; omega)))).mono ?_; rintro e w1 ⟨rfl, hb⟩; (first | (with_reducible have hk := Nat.lt_of_lt_of_le (size_alloc_lt _ _) hb.size) | (with_reducible have hk := Nat.lt_of_lt_of_le (size_alloc_drew_lt _ _) hb.size) | (with_reducible have hk := Nat.lt_of_lt_of_le hk hb.size) | skip); (try simp only [World.size_alloc, World.size_setCell, size_drew, size_drewN] at hk); obtain ⟨hc, hf⟩ := bcell hb; have hs := hb.size; (try simp only [World.size_alloc, World.size_setCell, size_drew, size_drewN] at hs)))
          all_goals go_wp2_with fail
          all_goals go_meet
          all_goals exact ⟨rfl, (Reg.out (‹Reg _ _ _ ∧ _›).1 (by (repeat first | with_reducible exact Below.refl _ _ | with_reducible assumption | (with_reducible refine Below.setCell ?_ ?_ _; rotate_left; exact (by first | omega | (simp; done) | (simp; omega))) | (with_reducible refine Below.alloc ?_ ?_ _; rotate_left; exact (by first | omega | (simp; done) | (simp; omega))) | with_reducible refine Below.drew ?_ | with_reducible refine Below_drewN ?_ _)) (by first | omega | (simp; done) | (simp; omega)))⟩
        case rest =>
          obtain ⟨rfl, hB1⟩ := hcut
          go_wp2_with fail
          go_roundw
          case rel => exact ⟨j + 1, by omega, by go_num, HN, hB1⟩
          case measure => simp [intOf]; omega
      · have HN : Hid (e = G) := Lib.hid (by rw [HS.out, if_neg h0])
        have hne : (e != 0) = true := by rw [bne_iff_ne]; exact h0
        clear HS
        go_upto_region 6 with fail
        go_cut [9] (fun s9 wx => s9 = .int .i64 e ∧ Below w.heap.size w wx)
        case first =>
          have HS : Hid (∀ w' : World, Reg (wr.heap.size + 1) ((wr.alloc (.cells #[.string x.name, .int .i64 x.kind, .int .i64 x.r, .int .i64 x.z, .int .i64 x.error] 57))) w' → (Reg (wr.heap.size + 1) ((wr.alloc (.cells #[.string x.name, .int .i64 x.kind, .int .i64 x.r, .int .i64 x.z, .int .i64 x.error] 57))) w' ∧ w'.cell? ⟨wr.heap.size, 0, none⟩ = some (.string x.name) ∧ w'.cell? ⟨wr.heap.size, 1, none⟩ = some (.int .i64 x.kind) ∧ w'.cell? ⟨wr.heap.size, 2, none⟩ = some (.int .i64 x.r) ∧ w'.cell? ⟨wr.heap.size, 3, none⟩ = some (.int .i64 x.z) ∧ w'.cell? ⟨wr.heap.size, 4, none⟩ = some (.int .i64 x.error))) := (fun w' h => by (have hc := h.cells; have hs := h.some; have hf := h.frozen; refine ⟨h, ?_⟩; (try simp only [World.size_alloc, World.size_setCell, size_drew, size_drewN] at hc hs hf); first | (simp (disch := omega) only [hc, hs, hf, cur_iff]; (try go_simp); done) | (simp (disch := first | omega | (simp; done)) only [hc, hs, hf, cur_iff]; (try go_simp); done) | (simp (maxDischargeDepth := 4) [hc, hs, hf, cur_iff, go_sem]; done) | (go_simp; done) | (simp (maxDischargeDepth := 4) [hc, hs, hf, cur_iff, go_sem]; go_simp))); go_region_held3 (fun w' => Reg (wr.heap.size + 1) ((wr.alloc (.cells #[.string x.name, .int .i64 x.kind, .int .i64 x.r, .int .i64 x.z, .int .i64 x.error] 57))) w' ∧ w'.cell? ⟨wr.heap.size, 0, none⟩ = some (.string x.name) ∧ w'.cell? ⟨wr.heap.size, 1, none⟩ = some (.int .i64 x.kind) ∧ w'.cell? ⟨wr.heap.size, 2, none⟩ = some (.int .i64 x.r) ∧ w'.cell? ⟨wr.heap.size, 3, none⟩ = some (.int .i64 x.z) ∧ w'.cell? ⟨wr.heap.size, 4, none⟩ = some (.int .i64 x.error)) (exact HS.out _ (by (repeat first | with_reducible exact Reg.refl _ _ | with_reducible exact Reg.drewN2 _ _ _ _ | with_reducible exact (‹Reg _ _ _ ∧ _›).1 | (with_reducible refine Reg.setCell ?_ ?_ _; rotate_left; exact (by first | omega | ((try simp only [World.size_alloc, World.size_setCell, size_drew, size_drewN]); omega) | (simp; done) | (simp; omega))) | with_reducible refine Reg.alloc ?_ _ | with_reducible refine Reg.drew ?_ | with_reducible refine Reg.drewN ?_ _ | (with_reducible apply Reg.call; rotate_left; with_reducible assumption)))) (first | ((with_reducible show Calls _ k _ _ _); refine (HC.out _ (Reg.out (‹Reg _ _ _ ∧ _›).1 (by (repeat first | with_reducible exact Below.refl _ _ | with_reducible assumption | (with_reducible refine Below.setCell ?_ ?_ _; rotate_left; exact (by first | omega | (simp; done) | (simp; omega))) | (with_reducible refine Below.alloc ?_ ?_ _; rotate_left; exact (by first | omega | (simp; done) | (simp; omega))) | with_reducible refine Below.drew ?_ | with_reducible refine Below_drewN ?_ _)) (by first | omega | (simp; done) | (simp; omega)))).mono ?_; rintro e w1 ⟨rfl, hb⟩; (first | (with_reducible have hk := Nat.lt_of_lt_of_le (size_alloc_lt _ _) hb.size) | (with_reducible have hk := Nat.lt_of_lt_of_le (size_alloc_drew_lt _ _) hb.size) | (with_reducible have hk := Nat.lt_of_lt_of_le hk hb.size) | skip); (try simp only [World.size_alloc, World.size_setCell, size_drew, size_drewN] at hk); obtain ⟨hc, hf⟩ := bcell hb; have hs := hb.size; (try simp only [World.size_alloc, World.size_setCell, size_drew, size_drewN] at hs)))
          all_goals go_wp2_with fail
          all_goals go_meet
          all_goals exact ⟨rfl, (Reg.out (‹Reg _ _ _ ∧ _›).1 (by (repeat first | with_reducible exact Below.refl _ _ | with_reducible assumption | (with_reducible refine Below.setCell ?_ ?_ _; rotate_left; exact (by first | omega | (simp; done) | (simp; omega))) | (with_reducible refine Below.alloc ?_ ?_ _; rotate_left; exact (by first | omega | (simp; done) | (simp; omega))) | with_reducible refine Below.drew ?_ | with_reducible refine Below_drewN ?_ _)) (by first | omega | (simp; done) | (simp; omega)))⟩
        case rest =>
          obtain ⟨rfl, hB1⟩ := hcut
          go_wp2_with fail
          go_ret
          exact ⟨by rw [← HN.out]; rfl, hB1⟩
    · have HN : Hid ((0 : Int) = G) := Lib.hid (by rw [← hG.out, List.drop_of_length_le (by rw [HI.out.1]; omega)]; rfl)
      go_wp2
      go_ret
      exact ⟨by rw [← HN.out]; rfl, hB⟩

end Go.Proofs.YtpnoinkiblnplaaDoor
end
section
/- Package machine: the contract of Check, over this seat's translation. -/
namespace Go.Proofs.YtpnoinkiblnplaaDoor
set_option linter.unusedVariables false
set_option linter.unusedSimpArgs false
open Go.RowKit Go.Shelf

/-- Where a machine's lists lie: addresses, lengths, capacities (coils, shells, limiter points, sensors). -/
structure MachR where
  (A B C D : Option Addr) (la ca lb cb lc cc ld cd : Nat)
def machCells (R : MachR) (M : MachD) : Array Value :=
  #[.string M.name, .slice R.A R.la R.ca, .slice R.B R.lb R.cb, .slice R.C R.lc R.cc, .int .i64 M.grid.r, .int .i64 M.grid.z, .int .i64 M.grid.nr, .int .i64 M.grid.nz, .int .i64 M.grid.step, .slice R.D R.ld R.cd]
/-- A value that is the machine M. -/
structure IsM (w : World) (R : MachR) (M : MachD) : Prop where
  coils : IsT 8 CoilD.cells w R.A R.la M.coils
  shells : IsT 4 ShellD.cells w R.B R.lb M.shells
  limits : IsT 2 PointD.cells w R.C R.lc M.limits
  sensors : IsT 5 SensorD.cells w R.D R.ld M.sensors
  la : R.la ≤ R.ca
  lb : R.lb ≤ R.cb
  lc : R.lc ≤ R.cc
  ld : R.ld ≤ R.cd
  ca : R.ca ≤ 9223372036854775807
  cb : R.cb ≤ 9223372036854775807
  cc : R.cc ≤ 9223372036854775807
  cd : R.cd ≤ 9223372036854775807
  ka : R.la ≤ 1000000000000000
  kb : R.lb ≤ 1000000000000000
  kc : R.lc ≤ 1000000000000000
  kd : R.ld ≤ 1000000000000000
theorem IsM.below {w w1 : World} {R : MachR} {M : MachD} (h : IsM w R M) (hb : Below w.heap.size w w1) : IsM w1 R M :=
  ⟨h.coils.below hb, h.shells.below hb, h.limits.below hb, h.sensors.below hb, h.la, h.lb, h.lc, h.ld, h.ca, h.cb, h.cc, h.cd, h.ka, h.kb, h.kc, h.kd⟩

theorem isT_new (W : World) (cs : List Int) (t : TypeId) : IsT 1 intCells (W.alloc (.cells (cs.map (Value.int .i64)).toArray t)) (some ⟨W.heap.size, 0, none⟩) cs.length cs :=
  ⟨rfl, fun _ => ⟨_, 0, rfl, by simp, fun j x hx i v hv => by
    rcases i with _ | i
    · obtain rfl : Value.int .i64 x = v := by simpa [intCells] using hv
      obtain ⟨hj, rfl⟩ := List.getElem?_eq_some_iff.1 hx
      simp [go_sem, hj]
    · simp [intCells] at hv⟩⟩

theorem check_each {α : Type} {n : Nat} {enc : α → List Value} {w : World} {A : Option Addr} {len : Nat} {zs : List α} (h : IsT n enc w A len zs) {j : Nat} {x : α} (hx : zs[j]? = some x) : IsT n enc w A j (zs.take j) ∧ j ≤ len :=
  have hj : j < zs.length := (List.getElem?_eq_some_iff.1 hx).1
  have : j ≤ len := by rw [h.1] at hj; omega
  ⟨h.take this, this⟩

set_option maxRecDepth 100000 in
set_option maxHeartbeats 8000000 in
theorem check_any (R : MachR) (M : MachD) (w : World) (hM : IsM w R M) :
    Calls Tryd.prog 43 #[.agg (machCells R M)] w (Ret (.int .i64 (checkC M)) w) := by
  have HE : Hid (checkC M = orL [nameC M.name, eachC coilC 12 M.coils, eachC shellC 16 M.shells, limitsC M.limits, gridC M.grid, eachC sensorC 24 M.sensors]) := Lib.hid rfl
  have H1 := Lib.hid (fun W => checkName_any M.name W)
  have H2 := Lib.hid (fun W (hb : Below w.heap.size w W) => eachCoil 78 coilC 12 R.A R.la R.ca M.coils W (hM.below hb).coils (by have := hM.ka; omega) hM.la (by have := hM.ca; omega) (fun args W => enters_of Tryd.func78 (by kernel_rfl) rfl args W)
    (fun j x W' hx hb' => checkCoil_any x R.A j R.ca (M.coils.take j) W' (check_each ((hM.below hb).coils.below hb') hx).1 (by have := (check_each hM.coils hx).2; have := hM.ka; omega)))
  have H3 := Lib.hid (fun W (hb : Below w.heap.size w W) => eachShell 80 shellC 16 R.B R.lb R.cb M.shells W (hM.below hb).shells (by have := hM.kb; omega) hM.lb (by have := hM.cb; omega) (fun args W => enters_of Tryd.func80 (by kernel_rfl) rfl args W)
    (fun j x W' hx hb' => checkShell_any x R.B j R.cb (M.shells.take j) W'))
  have H4 := Lib.hid (fun W (hb : Below w.heap.size w W) => checkLimits_any R.C R.lc R.cc M.limits W (hM.below hb).limits (by have := hM.kc; omega) hM.lc (by have := hM.cc; omega))
  have H5 := Lib.hid (fun W => checkGrid_any M.grid W)
  have H6 := Lib.hid (fun W (hb : Below w.heap.size w W) => eachSensor 84 sensorC 24 R.D R.ld R.cd M.sensors W (hM.below hb).sensors (by have := hM.kd; omega) hM.ld (by have := hM.cd; omega) (fun args W => enters_of Tryd.func84 (by kernel_rfl) rfl args W)
    (fun j x W' hx hb' => checkSensor_any x R.D j R.cd (M.sensors.take j) W' (check_each ((hM.below hb).sensors.below hb') hx).1 (by have := (check_each hM.sensors hx).2; have := hM.kd; omega)))
  clear hM
  generalize checkC M = G at *
  generalize nameC M.name = e1 at *
  generalize eachC coilC 12 M.coils = e2 at *
  generalize eachC shellC 16 M.shells = e3 at *
  generalize limitsC M.limits = e4 at *
  generalize gridC M.grid = e5 at *
  generalize eachC sensorC 24 M.sensors = e6 at *
  obtain ⟨A, B, C, D, la, ca, lb, cb, lc, cc, ld, cd⟩ := R
  obtain ⟨name, coils, shells, limits, ⟨r, z, nr, nz, step⟩, sensors⟩ := M
  dsimp only at *
  have H5 := Lib.hid (show ∀ W, Calls Tryd.prog 82 #[.agg #[.int .i64 r, .int .i64 z, .int .i64 nr, .int .i64 nz, .int .i64 step]] W (Ret (.int .i64 e5) W) from H5.out)
  show Calls Tryd.prog 43 #[.agg #[.string name, .slice A la ca, .slice B lb cb, .slice C lc cc, .int .i64 r, .int .i64 z, .int .i64 nr, .int .i64 nz, .int .i64 step, .slice D ld cd]] w _
  go_enter Tryd.func43, Tryd.ntmps43
  go_upto_region 1 with fail
  have HS : Hid (∀ w' : World, Reg (w.heap.size + 1) (w.alloc (.cells #[.string name, .slice A la ca, .slice B lb cb, .slice C lc cc, .int .i64 r, .int .i64 z, .int .i64 nr, .int .i64 nz, .int .i64 step, .slice D ld cd] 29)) w' → (Reg (w.heap.size + 1) (w.alloc (.cells #[.string name, .slice A la ca, .slice B lb cb, .slice C lc cc, .int .i64 r, .int .i64 z, .int .i64 nr, .int .i64 nz, .int .i64 step, .slice D ld cd] 29)) w' ∧ w'.cell? ⟨w.heap.size, 0, none⟩ = some (.string name) ∧ w'.cell? ⟨w.heap.size, 1, none⟩ = some (.slice A la ca) ∧ w'.cell? ⟨w.heap.size, 2, none⟩ = some (.slice B lb cb) ∧ w'.cell? ⟨w.heap.size, 3, none⟩ = some (.slice C lc cc) ∧ w'.cell? ⟨w.heap.size, 4, none⟩ = some (.int .i64 r) ∧ w'.cell? ⟨w.heap.size, 5, none⟩ = some (.int .i64 z) ∧ w'.cell? ⟨w.heap.size, 6, none⟩ = some (.int .i64 nr) ∧ w'.cell? ⟨w.heap.size, 7, none⟩ = some (.int .i64 nz) ∧ w'.cell? ⟨w.heap.size, 8, none⟩ = some (.int .i64 step) ∧ w'.cell? ⟨w.heap.size, 9, none⟩ = some (.slice D ld cd))) := (fun w' h => by (have hc := h.cells; have hs := h.some; have hf := h.frozen; refine ⟨h, ?_⟩; (try simp only [World.size_alloc, World.size_setCell, size_drew, size_drewN] at hc hs hf); first | (simp (disch := omega) only [hc, hs, hf, cur_iff]; (try go_simp); done) | (simp (disch := first | omega | (simp; done)) only [hc, hs, hf, cur_iff]; (try go_simp); done) | (simp (maxDischargeDepth := 4) [hc, hs, hf, cur_iff, go_sem]; done) | (go_simp; done) | (simp (maxDischargeDepth := 4) [hc, hs, hf, cur_iff, go_sem]; go_simp))); go_region_held3 (fun w' => Reg (w.heap.size + 1) (w.alloc (.cells #[.string name, .slice A la ca, .slice B lb cb, .slice C lc cc, .int .i64 r, .int .i64 z, .int .i64 nr, .int .i64 nz, .int .i64 step, .slice D ld cd] 29)) w' ∧ w'.cell? ⟨w.heap.size, 0, none⟩ = some (.string name) ∧ w'.cell? ⟨w.heap.size, 1, none⟩ = some (.slice A la ca) ∧ w'.cell? ⟨w.heap.size, 2, none⟩ = some (.slice B lb cb) ∧ w'.cell? ⟨w.heap.size, 3, none⟩ = some (.slice C lc cc) ∧ w'.cell? ⟨w.heap.size, 4, none⟩ = some (.int .i64 r) ∧ w'.cell? ⟨w.heap.size, 5, none⟩ = some (.int .i64 z) ∧ w'.cell? ⟨w.heap.size, 6, none⟩ = some (.int .i64 nr) ∧ w'.cell? ⟨w.heap.size, 7, none⟩ = some (.int .i64 nz) ∧ w'.cell? ⟨w.heap.size, 8, none⟩ = some (.int .i64 step) ∧ w'.cell? ⟨w.heap.size, 9, none⟩ = some (.slice D ld cd)) (exact HS.out _ (by (repeat first | with_reducible exact Reg.refl _ _ | with_reducible exact Reg.drewN2 _ _ _ _ | with_reducible exact (‹Reg _ _ _ ∧ _›).1 | (with_reducible refine Reg.setCell ?_ ?_ _; rotate_left; exact (by first | omega | ((try simp only [World.size_alloc, World.size_setCell, size_drew, size_drewN]); omega) | (simp; done) | (simp; omega))) | with_reducible refine Reg.alloc ?_ _ | with_reducible refine Reg.drew ?_ | with_reducible refine Reg.drewN ?_ _ | (with_reducible apply Reg.call; rotate_left; with_reducible assumption)))) (first | (go_at_call 76; refine (H1.out _).mono ?_; rintro e w1 ⟨rfl, rfl⟩) | (go_at_call 77; refine (H2.out _ (Reg.out (‹Reg _ _ _ ∧ _›).1 (by (repeat first | with_reducible exact Below.refl _ _ | with_reducible assumption | (with_reducible refine Below.setCell ?_ ?_ _; rotate_left; exact (by first | omega | (simp; done) | (simp; omega))) | (with_reducible refine Below.alloc ?_ ?_ _; rotate_left; exact (by first | omega | (simp; done) | (simp; omega))) | with_reducible refine Below.drew ?_ | with_reducible refine Below_drewN ?_ _)) (by first | omega | (simp; done) | (simp; omega)))).mono ?_; rintro e w1 ⟨rfl, hb⟩; (first | (with_reducible have hk := Nat.lt_of_lt_of_le (size_alloc_lt _ _) hb.size) | (with_reducible have hk := Nat.lt_of_lt_of_le (size_alloc_drew_lt _ _) hb.size) | (with_reducible have hk := Nat.lt_of_lt_of_le hk hb.size) | skip); (try simp only [World.size_alloc, World.size_setCell, size_drew, size_drewN] at hk); obtain ⟨hc, hf⟩ := bcell hb; have hs := hb.size; (try simp only [World.size_alloc, World.size_setCell, size_drew, size_drewN] at hs)) | (go_at_call 79; refine (H3.out _ (Reg.out (‹Reg _ _ _ ∧ _›).1 (by (repeat first | with_reducible exact Below.refl _ _ | with_reducible assumption | (with_reducible refine Below.setCell ?_ ?_ _; rotate_left; exact (by first | omega | (simp; done) | (simp; omega))) | (with_reducible refine Below.alloc ?_ ?_ _; rotate_left; exact (by first | omega | (simp; done) | (simp; omega))) | with_reducible refine Below.drew ?_ | with_reducible refine Below_drewN ?_ _)) (by first | omega | (simp; done) | (simp; omega)))).mono ?_; rintro e w1 ⟨rfl, hb⟩; (first | (with_reducible have hk := Nat.lt_of_lt_of_le (size_alloc_lt _ _) hb.size) | (with_reducible have hk := Nat.lt_of_lt_of_le (size_alloc_drew_lt _ _) hb.size) | (with_reducible have hk := Nat.lt_of_lt_of_le hk hb.size) | skip); (try simp only [World.size_alloc, World.size_setCell, size_drew, size_drewN] at hk); obtain ⟨hc, hf⟩ := bcell hb; have hs := hb.size; (try simp only [World.size_alloc, World.size_setCell, size_drew, size_drewN] at hs)) | (go_at_call 81; refine (H4.out _ (Reg.out (‹Reg _ _ _ ∧ _›).1 (by (repeat first | with_reducible exact Below.refl _ _ | with_reducible assumption | (with_reducible refine Below.setCell ?_ ?_ _; rotate_left; exact (by first | omega | (simp; done) | (simp; omega))) | (with_reducible refine Below.alloc ?_ ?_ _; rotate_left; exact (by first | omega | (simp; done) | (simp; omega))) | with_reducible refine Below.drew ?_ | with_reducible refine Below_drewN ?_ _)) (by first | omega | (simp; done) | (simp; omega)))).mono ?_; rintro e w1 ⟨rfl, hb⟩; (first | (with_reducible have hk := Nat.lt_of_lt_of_le (size_alloc_lt _ _) hb.size) | (with_reducible have hk := Nat.lt_of_lt_of_le (size_alloc_drew_lt _ _) hb.size) | (with_reducible have hk := Nat.lt_of_lt_of_le hk hb.size) | skip); (try simp only [World.size_alloc, World.size_setCell, size_drew, size_drewN] at hk); obtain ⟨hc, hf⟩ := bcell hb; have hs := hb.size; (try simp only [World.size_alloc, World.size_setCell, size_drew, size_drewN] at hs)) | (go_at_call 82; refine (H5.out _).mono ?_; rintro e w1 ⟨rfl, hb⟩; (first | (with_reducible have hk := Nat.lt_of_lt_of_le (size_alloc_lt _ _) hb.size) | (with_reducible have hk := Nat.lt_of_lt_of_le (size_alloc_drew_lt _ _) hb.size) | (with_reducible have hk := Nat.lt_of_lt_of_le hk hb.size) | skip); (try simp only [World.size_alloc, World.size_setCell, size_drew, size_drewN] at hk); obtain ⟨hc, hf⟩ := bcell hb; have hs := hb.size; (try simp only [World.size_alloc, World.size_setCell, size_drew, size_drewN] at hs)) | (go_at_call 83; refine (H6.out _ (Reg.out (‹Reg _ _ _ ∧ _›).1 (by (repeat first | with_reducible exact Below.refl _ _ | with_reducible assumption | (with_reducible refine Below.setCell ?_ ?_ _; rotate_left; exact (by first | omega | (simp; done) | (simp; omega))) | (with_reducible refine Below.alloc ?_ ?_ _; rotate_left; exact (by first | omega | (simp; done) | (simp; omega))) | with_reducible refine Below.drew ?_ | with_reducible refine Below_drewN ?_ _)) (by first | omega | (simp; done) | (simp; omega)))).mono ?_; rintro e w1 ⟨rfl, hb⟩; (first | (with_reducible have hk := Nat.lt_of_lt_of_le (size_alloc_lt _ _) hb.size) | (with_reducible have hk := Nat.lt_of_lt_of_le (size_alloc_drew_lt _ _) hb.size) | (with_reducible have hk := Nat.lt_of_lt_of_le hk hb.size) | skip); (try simp only [World.size_alloc, World.size_setCell, size_drew, size_drewN] at hk); obtain ⟨hc, hf⟩ := bcell hb; have hs := hb.size; (try simp only [World.size_alloc, World.size_setCell, size_drew, size_drewN] at hs)) | (go_at_call 75; refine (or_any _ 6 6 [e1, e2, e3, e4, e5, e6] _ (isT_new _ [e1, e2, e3, e4, e5, e6] _) (by omega)).mono ?_; rintro e w1 ⟨rfl, hb⟩; (first | (with_reducible have hk := Nat.lt_of_lt_of_le (size_alloc_lt _ _) hb.size) | (with_reducible have hk := Nat.lt_of_lt_of_le (size_alloc_drew_lt _ _) hb.size) | (with_reducible have hk := Nat.lt_of_lt_of_le hk hb.size) | skip); (try simp only [World.size_alloc, World.size_setCell, size_drew, size_drewN] at hk); obtain ⟨hc, hf⟩ := bcell hb; have hs := hb.size; (try simp only [World.size_alloc, World.size_setCell, size_drew, size_drewN] at hs)))
  all_goals go_wp2_with fail
  all_goals go_ret
  all_goals exact ⟨by rw [HE.out]; rfl, (Reg.out (‹Reg _ _ _ ∧ _›).1 (by (repeat first | with_reducible exact Below.refl _ _ | with_reducible assumption | (with_reducible refine Below.setCell ?_ ?_ _; rotate_left; exact (by first | omega | (simp; done) | (simp; omega))) | (with_reducible refine Below.alloc ?_ ?_ _; rotate_left; exact (by first | omega | (simp; done) | (simp; omega))) | with_reducible refine Below.drew ?_ | with_reducible refine Below_drewN ?_ _)) (by first | omega | (simp; done) | (simp; omega)))⟩

end Go.Proofs.YtpnoinkiblnplaaDoor
end
section
/- The laws over package sense: brief, over this seat's translation (written by mk_sv.py). -/
namespace Go.Proofs.YtpnoinkiblnplaaDoor
set_option linter.unusedVariables false
set_option linter.unusedSimpArgs false
open Go.RowKit Go.Shelf

def briefB (la lb lc ld p q s n : Nat) : Bool := (decide (la ≤ 40) && (decide (lb ≤ 40) && (decide (lc ≤ 40) && (decide (ld ≤ 60) && (decide (p ≤ 100) && (decide (q ≤ 100) && (decide (s ≤ 200) && decide (n ≤ 100))))))))

set_option maxRecDepth 100000 in
set_option maxHeartbeats 4000000 in
theorem brief_any (name : ByteArray) (A B C D : Option Addr) (la ca lb cb lc cc ld cd : Nat) (r z nr nz step : Int) (P Q S F : Option Addr) (p pc q qc s sc n nc : Nat) (w : World) :
    Calls Tryd.prog 6 #[.agg #[.string name, .slice A la ca, .slice B lb cb, .slice C lc cc, .int .i64 r, .int .i64 z, .int .i64 nr, .int .i64 nz, .int .i64 step, .slice D ld cd], .agg #[.slice P p pc, .slice Q q qc, .slice S s sc], .slice F n nc] w (Ret (.bool (briefB la lb lc ld p q s n)) w) := by
  have HE : Hid (briefB la lb lc ld p q s n = (decide (la ≤ 40) && (decide (lb ≤ 40) && (decide (lc ≤ 40) && (decide (ld ≤ 60) && (decide (p ≤ 100) && (decide (q ≤ 100) && (decide (s ≤ 200) && decide (n ≤ 100))))))))) := Lib.hid rfl
  generalize briefB la lb lc ld p q s n = G at *
  by_cases k0 : la ≤ 40
  rotate_left
  · have HF : Hid (false = G) := Lib.hid (by rw [HE.out, decide_eq_false k0]; simp)
    clear HE
    go_enter Tryd.func6, Tryd.ntmps6
    go_wp2_with fail
    go_ret
    exact ⟨by rw [← HF.out]; rfl, by (repeat first | with_reducible exact Below.refl _ _ | with_reducible assumption | (with_reducible refine Below.setCell ?_ ?_ _; rotate_left; exact (by first | omega | (simp; done) | (simp; omega))) | (with_reducible refine Below.alloc ?_ ?_ _; rotate_left; exact (by first | omega | (simp; done) | (simp; omega))) | with_reducible refine Below.drew ?_ | with_reducible refine Below_drewN ?_ _)⟩
  by_cases k1 : lb ≤ 40
  rotate_left
  · have HF : Hid (false = G) := Lib.hid (by rw [HE.out, decide_eq_false k1]; simp)
    clear HE
    go_enter Tryd.func6, Tryd.ntmps6
    go_wp2_with fail
    go_ret
    exact ⟨by rw [← HF.out]; rfl, by (repeat first | with_reducible exact Below.refl _ _ | with_reducible assumption | (with_reducible refine Below.setCell ?_ ?_ _; rotate_left; exact (by first | omega | (simp; done) | (simp; omega))) | (with_reducible refine Below.alloc ?_ ?_ _; rotate_left; exact (by first | omega | (simp; done) | (simp; omega))) | with_reducible refine Below.drew ?_ | with_reducible refine Below_drewN ?_ _)⟩
  by_cases k2 : lc ≤ 40
  rotate_left
  · have HF : Hid (false = G) := Lib.hid (by rw [HE.out, decide_eq_false k2]; simp)
    clear HE
    go_enter Tryd.func6, Tryd.ntmps6
    go_wp2_with fail
    go_ret
    exact ⟨by rw [← HF.out]; rfl, by (repeat first | with_reducible exact Below.refl _ _ | with_reducible assumption | (with_reducible refine Below.setCell ?_ ?_ _; rotate_left; exact (by first | omega | (simp; done) | (simp; omega))) | (with_reducible refine Below.alloc ?_ ?_ _; rotate_left; exact (by first | omega | (simp; done) | (simp; omega))) | with_reducible refine Below.drew ?_ | with_reducible refine Below_drewN ?_ _)⟩
  by_cases k3 : ld ≤ 60
  rotate_left
  · have HF : Hid (false = G) := Lib.hid (by rw [HE.out, decide_eq_false k3]; simp)
    clear HE
    go_enter Tryd.func6, Tryd.ntmps6
    go_wp2_with fail
    go_ret
    exact ⟨by rw [← HF.out]; rfl, by (repeat first | with_reducible exact Below.refl _ _ | with_reducible assumption | (with_reducible refine Below.setCell ?_ ?_ _; rotate_left; exact (by first | omega | (simp; done) | (simp; omega))) | (with_reducible refine Below.alloc ?_ ?_ _; rotate_left; exact (by first | omega | (simp; done) | (simp; omega))) | with_reducible refine Below.drew ?_ | with_reducible refine Below_drewN ?_ _)⟩
  by_cases k4 : p ≤ 100
  rotate_left
  · have HF : Hid (false = G) := Lib.hid (by rw [HE.out, decide_eq_false k4]; simp)
    clear HE
    go_enter Tryd.func6, Tryd.ntmps6
    go_wp2_with fail
    go_ret
    exact ⟨by rw [← HF.out]; rfl, by (repeat first | with_reducible exact Below.refl _ _ | with_reducible assumption | (with_reducible refine Below.setCell ?_ ?_ _; rotate_left; exact (by first | omega | (simp; done) | (simp; omega))) | (with_reducible refine Below.alloc ?_ ?_ _; rotate_left; exact (by first | omega | (simp; done) | (simp; omega))) | with_reducible refine Below.drew ?_ | with_reducible refine Below_drewN ?_ _)⟩
  by_cases k5 : q ≤ 100
  rotate_left
  · have HF : Hid (false = G) := Lib.hid (by rw [HE.out, decide_eq_false k5]; simp)
    clear HE
    go_enter Tryd.func6, Tryd.ntmps6
    go_wp2_with fail
    go_ret
    exact ⟨by rw [← HF.out]; rfl, by (repeat first | with_reducible exact Below.refl _ _ | with_reducible assumption | (with_reducible refine Below.setCell ?_ ?_ _; rotate_left; exact (by first | omega | (simp; done) | (simp; omega))) | (with_reducible refine Below.alloc ?_ ?_ _; rotate_left; exact (by first | omega | (simp; done) | (simp; omega))) | with_reducible refine Below.drew ?_ | with_reducible refine Below_drewN ?_ _)⟩
  by_cases k6 : s ≤ 200
  rotate_left
  · have HF : Hid (false = G) := Lib.hid (by rw [HE.out, decide_eq_false k6]; simp)
    clear HE
    go_enter Tryd.func6, Tryd.ntmps6
    go_wp2_with fail
    go_ret
    exact ⟨by rw [← HF.out]; rfl, by (repeat first | with_reducible exact Below.refl _ _ | with_reducible assumption | (with_reducible refine Below.setCell ?_ ?_ _; rotate_left; exact (by first | omega | (simp; done) | (simp; omega))) | (with_reducible refine Below.alloc ?_ ?_ _; rotate_left; exact (by first | omega | (simp; done) | (simp; omega))) | with_reducible refine Below.drew ?_ | with_reducible refine Below_drewN ?_ _)⟩
  by_cases k7 : n ≤ 100
  rotate_left
  · have HF : Hid (false = G) := Lib.hid (by rw [HE.out, decide_eq_false k7]; simp)
    clear HE
    have dn : decide ((n : Int) ≤ 100) = false := decide_eq_false (by omega)
    go_enter Tryd.func6, Tryd.ntmps6
    go_wp2_with fail
    go_ret
    exact ⟨by rw [← HF.out]; rfl, by (repeat first | with_reducible exact Below.refl _ _ | with_reducible assumption | (with_reducible refine Below.setCell ?_ ?_ _; rotate_left; exact (by first | omega | (simp; done) | (simp; omega))) | (with_reducible refine Below.alloc ?_ ?_ _; rotate_left; exact (by first | omega | (simp; done) | (simp; omega))) | with_reducible refine Below.drew ?_ | with_reducible refine Below_drewN ?_ _)⟩
  have HF : Hid (true = G) := Lib.hid (by rw [HE.out, decide_eq_true k0, decide_eq_true k1, decide_eq_true k2, decide_eq_true k3, decide_eq_true k4, decide_eq_true k5, decide_eq_true k6, decide_eq_true k7]; rfl)
  clear HE
  have dn : decide ((n : Int) ≤ 100) = true := decide_eq_true (by omega)
  go_enter Tryd.func6, Tryd.ntmps6
  go_wp2_with fail
  go_ret
  exact ⟨by rw [← HF.out]; rfl, by (repeat first | with_reducible exact Below.refl _ _ | with_reducible assumption | (with_reducible refine Below.setCell ?_ ?_ _; rotate_left; exact (by first | omega | (simp; done) | (simp; omega))) | (with_reducible refine Below.alloc ?_ ?_ _; rotate_left; exact (by first | omega | (simp; done) | (simp; omega))) | with_reducible refine Below.drew ?_ | with_reducible refine Below_drewN ?_ _)⟩
theorem brief_bd {la lb lc ld p q s n : Nat} (h : briefB la lb lc ld p q s n = true) : la ≤ 40 ∧ lb ≤ 40 ∧ lc ≤ 40 ∧ ld ≤ 60 ∧ p ≤ 100 ∧ q ≤ 100 ∧ s ≤ 200 ∧ n ≤ 100 := by
  simpa [briefB, Bool.and_eq_true, decide_eq_true_iff] using h

end Go.Proofs.YtpnoinkiblnplaaDoor
end
section
/- The library's contracts that these proofs use, at this seat's numbers: laid by the kit's own programs, in plain words. -/
namespace Go.Proofs
open Go.Shelf
def Tryd.laysNm215_ren : Go.Shelf.Ren := ⟨fun | 15 => 47 | n => n, fun | 22 => 30 | 3 => 3 | 4 => 4 | n => n, fun | n => n⟩
theorem Tryd.laysNm215 : Go.Proofs.Lays2.n15 Tryd.prog Tryd.laysNm215_ren := {
  mixed := by kernel_rfl
  f15 := Tryd.func47.trans (congrArg some (by kernel_rfl))
  t3 := Tryd.underlying3
  a3 := Tryd.isAgg3
  z3 := Tryd.sizeOf3
  v3 := Tryd.zeroValue3
  t4 := Tryd.underlying4
  a4 := Tryd.isAgg4
  z4 := Tryd.sizeOf4
  v4 := Tryd.zeroValue4
  t22 := Tryd.underlying30
  a22 := Tryd.isAgg30
  z22 := Tryd.sizeOf30
  v22 := Tryd.zeroValue30
  i3 := by kernel_rfl }
open Go.RowKit Go.Lib in
theorem Tryd.slices_Clone_int (b off n c : Nat) (zs : List Int) (w : World) (hz : n ≤ zs.length) (hbig : n * 8 ≤ 140737488355328) (hc : ∀ j, j < zs.length → w.cell? ⟨b, off + j, none⟩ = some (.int .i64 (zs.getD j 0))) :
    Calls Tryd.prog 47 #[.slice (some ⟨b, off, none⟩) n c] w fun e w' => ∃ v', e = .returned v' ∧ w'.ownsRow w.heap.size 3 1 v' n ((zs.take n).map (Value.int .i64)) ∧ v' ≠ .slice none 0 0 ∧ Below w.heap.size w w' := Any.slices_Clone_int Tryd.laysNm215 b off n c zs w hz hbig hc
open Go.RowKit Go.Lib in
theorem Tryd.slices_Clone_int_nil (n c : Nat) (w : World) :
    Calls Tryd.prog 47 #[.slice none n c] w fun e w' => e = .returned (.slice none 0 0) ∧ w' = w := Any.slices_Clone_int_nil Tryd.laysNm215 n c w
open Go.RowKit Go.Lib in
theorem Tryd.slices_Clone_int_zero (a : Addr) (c : Nat) (w : World) :
    Calls Tryd.prog 47 #[.slice (some a) 0 c] w fun e w' => ∃ v', e = .returned v' ∧ w'.ownsRow w.heap.size 3 1 v' 0 [] ∧ v' ≠ .slice none 0 0 ∧ Below w.heap.size w w' := Any.slices_Clone_int_zero Tryd.laysNm215 a c w
end Go.Proofs
end
section
/- slices.IndexFunc and ContainsFunc over []int, over this seat's translation (written by mk_mac.py). -/
namespace Go.Proofs.YtpnoinkiblnplaaDoor
set_option linter.unusedVariables false
set_option linter.unusedSimpArgs false
open Go.RowKit

set_option maxHeartbeats 2000000 in
theorem indexint2 (k : Nat) (c0 : Nat) (c1 : Nat) (p : Int → Bool) (A : Option Addr) (len cap : Nat) (zs : List Int) (w : World) (hI : IsT 1 intCells w A len zs) (hl : len ≤ 1000000000000000)
    (hE : ∀ (args : Array Value) (W : World), (callFunc k args).run Tryd.prog W = .ok (.enter k args) W)
    (hk : ∀ (x : Int) (W : World), x ∈ zs → Below w.heap.size w W → Calls Tryd.prog k #[intV x, .pointer (some ⟨c0, 0, none⟩), .pointer (some ⟨c1, 0, none⟩)] W (Ret (.bool (p x)) W)) :
    Calls Tryd.prog 106 #[.slice A len cap, .func (.func k) #[] #[.pointer (some ⟨c0, 0, none⟩), .pointer (some ⟨c1, 0, none⟩)]] w (Ret (.int .i64 (idxL p zs)) w) := by
  have HI := Lib.hid hI
  have HK := Lib.hid hk
  have HG : Hid (idxL p zs = idxGo p zs 0) := Lib.hid rfl
  generalize idxL p zs = G at *
  clear hI hk
  go_enter Tryd.func106, Tryd.ntmps106
  go_wp2_with fail
  go_loopw [5, 8] (fun _ i wr => ∃ j : Nat, j ≤ len ∧ i = .int .i64 j ∧ Hid (idxGo p (zs.drop j) j = G) ∧ Below w.heap.size w wr) (fun _ i _ => len - (intOf i).toNat)
  case atStart => exact ⟨0, Nat.zero_le _, rfl, Lib.hid HG.out.symm, Below.refl _ _⟩
  case round =>
    obtain ⟨j, hj, rfl, hG, hB⟩ := hrel
    by_cases hlt : j < len
    · obtain ⟨hzl, hcl⟩ := HI.out.below hB
      obtain ⟨b, o, rfl, hb0, hcl⟩ := hcl (by omega)
      obtain ⟨x, hx⟩ : ∃ x, zs[j]? = some x := ⟨_, List.getElem?_eq_getElem (by omega)⟩
      have HM := Lib.hid (List.mem_of_getElem? hx)
      have HS := Lib.hid (idxGo_drop p hx (j : Int))
      have x0 : wr.cell? ⟨b, o + j, none⟩ = some (.int .i64 x) := by have h := hcl j x hx 0 _ rfl; simpa using h
      have hsz := hB.size
      have HC := Lib.hid (HK.out x)
      clear hcl hx hzl
      cases hp : p x
      · have HN : Hid (idxGo p (zs.drop (j + 1)) ((j + 1 : Nat) : Int) = G) := Lib.hid (by rw [← hG.out, HS.out, hp]; rfl)
        have HC := Lib.hid (show ∀ W, Below w.heap.size w W → Calls Tryd.prog k #[intV x, .pointer (some ⟨c0, 0, none⟩), .pointer (some ⟨c1, 0, none⟩)] W (Ret (.bool false) W) from fun W h => by have := HC.out W HM.out h; rwa [hp] at this)
        clear hp
        go_wp2_with ((with_reducible show Calls _ k _ _ _); refine (HC.out _ (by (repeat first | with_reducible exact Below.refl _ _ | with_reducible assumption | (with_reducible refine Below.setCell ?_ ?_ _; rotate_left; exact (by first | omega | (simp; done) | (simp; omega))) | (with_reducible refine Below.alloc ?_ ?_ _; rotate_left; exact (by first | omega | (simp; done) | (simp; omega))) | with_reducible refine Below.drew ?_ | with_reducible refine Below_drewN ?_ _))).mono ?_; rintro e w1 ⟨rfl, hb⟩; have hB1 : Below w.heap.size w w1 := Below.trans (by (repeat first | with_reducible exact Below.refl _ _ | with_reducible assumption | (with_reducible refine Below.setCell ?_ ?_ _; rotate_left; exact (by first | omega | (simp; done) | (simp; omega))) | (with_reducible refine Below.alloc ?_ ?_ _; rotate_left; exact (by first | omega | (simp; done) | (simp; omega))) | with_reducible refine Below.drew ?_ | with_reducible refine Below_drewN ?_ _)) (hb.mono (by first | omega | ((try simp only [World.size_alloc, World.size_setCell, size_drew, size_drewN]); omega) | (simp; done) | (simp; omega))))
        go_roundw
        case rel => exact ⟨j + 1, by omega, by go_num, HN, by (repeat first | with_reducible exact Below.refl _ _ | with_reducible assumption | (with_reducible refine Below.setCell ?_ ?_ _; rotate_left; exact (by first | omega | (simp; done) | (simp; omega))) | (with_reducible refine Below.alloc ?_ ?_ _; rotate_left; exact (by first | omega | (simp; done) | (simp; omega))) | with_reducible refine Below.drew ?_ | with_reducible refine Below_drewN ?_ _)⟩
        case measure => simp [intOf]; omega
      · have HN : Hid ((j : Int) = G) := Lib.hid (by rw [← hG.out, HS.out, hp]; rfl)
        have HC := Lib.hid (show ∀ W, Below w.heap.size w W → Calls Tryd.prog k #[intV x, .pointer (some ⟨c0, 0, none⟩), .pointer (some ⟨c1, 0, none⟩)] W (Ret (.bool true) W) from fun W h => by have := HC.out W HM.out h; rwa [hp] at this)
        clear hp
        go_wp2_with ((with_reducible show Calls _ k _ _ _); refine (HC.out _ (by (repeat first | with_reducible exact Below.refl _ _ | with_reducible assumption | (with_reducible refine Below.setCell ?_ ?_ _; rotate_left; exact (by first | omega | (simp; done) | (simp; omega))) | (with_reducible refine Below.alloc ?_ ?_ _; rotate_left; exact (by first | omega | (simp; done) | (simp; omega))) | with_reducible refine Below.drew ?_ | with_reducible refine Below_drewN ?_ _))).mono ?_; rintro e w1 ⟨rfl, hb⟩; have hB1 : Below w.heap.size w w1 := Below.trans (by (repeat first | with_reducible exact Below.refl _ _ | with_reducible assumption | (with_reducible refine Below.setCell ?_ ?_ _; rotate_left; exact (by first | omega | (simp; done) | (simp; omega))) | (with_reducible refine Below.alloc ?_ ?_ _; rotate_left; exact (by first | omega | (simp; done) | (simp; omega))) | with_reducible refine Below.drew ?_ | with_reducible refine Below_drewN ?_ _)) (hb.mono (by first | omega | ((try simp only [World.size_alloc, World.size_setCell, size_drew, size_drewN]); omega) | (simp; done) | (simp; omega))))
        go_ret
        exact ⟨by rw [← HN.out]; rfl, by (repeat first | with_reducible exact Below.refl _ _ | with_reducible assumption | (with_reducible refine Below.setCell ?_ ?_ _; rotate_left; exact (by first | omega | (simp; done) | (simp; omega))) | (with_reducible refine Below.alloc ?_ ?_ _; rotate_left; exact (by first | omega | (simp; done) | (simp; omega))) | with_reducible refine Below.drew ?_ | with_reducible refine Below_drewN ?_ _)⟩
    · have HN : Hid ((-1 : Int) = G) := Lib.hid (by rw [← hG.out, List.drop_of_length_le (by rw [HI.out.1]; omega)]; rfl)
      go_wp2
      go_ret
      exact ⟨by rw [← HN.out]; rfl, hB⟩

set_option maxHeartbeats 1000000 in
theorem containsint2 (k : Nat) (c0 : Nat) (c1 : Nat) (p : Int → Bool) (A : Option Addr) (len cap : Nat) (zs : List Int) (w : World) (hI : IsT 1 intCells w A len zs) (hl : len ≤ 1000000000000000)
    (hE : ∀ (args : Array Value) (W : World), (callFunc k args).run Tryd.prog W = .ok (.enter k args) W)
    (hk : ∀ (x : Int) (W : World), x ∈ zs → Below w.heap.size w W → Calls Tryd.prog k #[intV x, .pointer (some ⟨c0, 0, none⟩), .pointer (some ⟨c1, 0, none⟩)] W (Ret (.bool (p x)) W)) :
    Calls Tryd.prog 85 #[.slice A len cap, .func (.func k) #[] #[.pointer (some ⟨c0, 0, none⟩), .pointer (some ⟨c1, 0, none⟩)]] w (Ret (.bool (zs.any p)) w) := by
  have HI := Lib.hid (indexint2 k c0 c1 p A len cap zs w hI hl hE hk)
  have HA := Lib.hid (idxL_nonneg p zs)
  obtain ⟨b1, b2⟩ := idxL_bd p zs
  rw [hI.1] at b2
  clear hI hE hk
  generalize idxL p zs = G at *
  go_enter Tryd.func85, Tryd.ntmps85
  go_wp2_with (go_at_call 106; refine HI.out.mono ?_; rintro e w1 ⟨rfl, hb⟩)
  go_ret
  exact ⟨by rw [← HA.out]; rfl, hb⟩

end Go.Proofs.YtpnoinkiblnplaaDoor
end
section
/- Package machine: contracts of allWithin and Total, over this seat's translation; what valid currents are. -/
namespace Go.Proofs.YtpnoinkiblnplaaDoor
set_option linter.unusedVariables false
set_option linter.unusedSimpArgs false
open Go.RowKit Go.Shelf

/-- wpAnyH_take with the operation's place for its result written out. -/
theorem wpAnyH_takeD {P : Program} {md : Region.Mode} {ops : Array Oper} {Q : Exit → Act → World → Prop} {S : World → Prop} {i : Nat} {oi : Oper} {v : Value} {fuel : Nat} {listed : Array Bool} {a : Act} {w : World} (d : Option Tmp) (hi : ops[i]? = some oi) (hd : oi.dst = d)
    (hs : Region.noSelect ops = true) (hf : Region.free md ops listed i = true) (hr : (Region.ready md ops listed).contains i = true)
    (hQ : ∀ c a w, Q (.panic c) (a.put d v) w → Q (.panic c) a w) (hy : YieldsIf P ops S oi v a) (hS : S w)
    (h : wpAnyH P md ops Q S fuel (listed.setIfInBounds i true) (a.put d v) w) : wpAnyH P md ops Q S (fuel + 1) listed a w := by
  subst hd
  exact wpAnyH_take hi hs hf hr hQ hy hS h

set_option maxHeartbeats 1000000 in
theorem allWithin1_any (x a b : Int) (c0 c1 : Nat) (w : World) (h0 : w.cell? ⟨c0, 0, none⟩ = some (.int .i64 a)) (h1 : w.cell? ⟨c1, 0, none⟩ = some (.int .i64 b)) :
    Calls Tryd.prog 86 #[intV x, .pointer (some ⟨c0, 0, none⟩), .pointer (some ⟨c1, 0, none⟩)] w (Ret (.bool (!wthn x a b)) w) := by
  go_enter Tryd.func86, Tryd.ntmps86
  go_wp2_with (go_at_call 32; refine (mwithin_any _ _ _ _).mono ?_; rintro e w1 ⟨rfl, rfl⟩)
  go_ret
  exact ⟨rfl, by (repeat first | with_reducible exact Below.refl _ _ | with_reducible assumption | (with_reducible refine Below.setCell ?_ ?_ _; rotate_left; exact (by first | omega | (simp; done) | (simp; omega))) | (with_reducible refine Below.alloc ?_ ?_ _; rotate_left; exact (by first | omega | (simp; done) | (simp; omega))) | with_reducible refine Below.drew ?_ | with_reducible refine Below_drewN ?_ _)⟩

def allW (l : List Int) (a b : Int) : Bool := l.all fun x => wthn x a b
theorem not_any_allW (l : List Int) (a b : Int) : (!(l.any fun x => !wthn x a b)) = allW l a b := by
  unfold allW
  induction l with
  | nil => rfl
  | cons x r ih => simp only [List.any_cons, List.all_cons, Bool.not_or, Bool.not_not, ih]

set_option maxHeartbeats 1000000 in
theorem allWithin_any (A : Option Addr) (len cap : Nat) (zs : List Int) (a b : Int) (w : World) (hI : IsT 1 intCells w A len zs) (hl : len ≤ 1000000000000000) :
    Calls Tryd.prog 44 #[.slice A len cap, .int .i64 a, .int .i64 b] w (Ret (.bool (allW zs a b)) w) := by
  have HE := Lib.hid (not_any_allW zs a b)
  have HC := Lib.hid (fun W (hb : Below w.heap.size w W) (h0 : w.heap.size + 1 < W.heap.size) (h1 : W.cell? ⟨w.heap.size, 0, none⟩ = some (.int .i64 a)) (h2 : W.cell? ⟨w.heap.size + 1, 0, none⟩ = some (.int .i64 b)) =>
    containsint2 86 w.heap.size (w.heap.size + 1) (fun x => !wthn x a b) A len cap zs W (hI.below hb) hl (fun args W => enters_of Tryd.func86 (by kernel_rfl) rfl args W)
      (fun x W' _ hB => allWithin1_any x a b _ _ W' ((hB.cell (p := ⟨w.heap.size, 0, none⟩) (by show w.heap.size < _; omega)).trans h1) ((hB.cell (p := ⟨w.heap.size + 1, 0, none⟩) (by show w.heap.size + 1 < _; omega)).trans h2)))
  clear hI
  generalize allW zs a b = G at *
  generalize (zs.any fun x => !wthn x a b) = K at *
  go_enter Tryd.func44, Tryd.ntmps44
  go_wp2_with (go_at_call 85; refine (HC.out _ (by (repeat first | with_reducible exact Below.refl _ _ | with_reducible assumption | (with_reducible refine Below.setCell ?_ ?_ _; rotate_left; exact (by first | omega | (simp; done) | (simp; omega))) | (with_reducible refine Below.alloc ?_ ?_ _; rotate_left; exact (by first | omega | (simp; done) | (simp; omega))) | with_reducible refine Below.drew ?_ | with_reducible refine Below_drewN ?_ _)) (by first | omega | ((try simp only [World.size_alloc, World.size_setCell, size_drew, size_drewN]); omega) | (simp; done) | (simp; omega)) (by go_simp) (by go_simp)).mono ?_; rintro e w1 ⟨rfl, hb⟩)
  go_ret
  exact ⟨by rw [← HE.out]; rfl, Below.trans (by (repeat first | with_reducible exact Below.refl _ _ | with_reducible assumption | (with_reducible refine Below.setCell ?_ ?_ _; rotate_left; exact (by first | omega | (simp; done) | (simp; omega))) | (with_reducible refine Below.alloc ?_ ?_ _; rotate_left; exact (by first | omega | (simp; done) | (simp; omega))) | with_reducible refine Below.drew ?_ | with_reducible refine Below_drewN ?_ _)) (hb.mono (by first | omega | ((try simp only [World.size_alloc, World.size_setCell, size_drew, size_drewN]); omega) | (simp; done) | (simp; omega)))⟩

/-- The sum, as the program adds. -/
def tot (s : Int) : List Int → Int
  | [] => s
  | x :: r => tot (wrap64 (s + x)) r
theorem tot_drop {l : List Int} {k : Nat} {x : Int} (h : l[k]? = some x) (s : Int) : tot s (l.drop k) = tot (wrap64 (s + x)) (l.drop (k + 1)) := by
  obtain ⟨hk, rfl⟩ := List.getElem?_eq_some_iff.1 h
  rw [List.drop_eq_getElem_cons hk]; rfl

/-- Where the lists of currents lie. -/
structure CurR where
  (A B C : Option Addr) (la ca lb cb lc cc : Nat)
structure CurD where
  (coils shells plasma : List Int)
abbrev CurR.v (R : CurR) : Value := .agg #[.slice R.A R.la R.ca, .slice R.B R.lb R.cb, .slice R.C R.lc R.cc]
structure IsC (w : World) (R : CurR) (C : CurD) : Prop where
  coils : IsT 1 intCells w R.A R.la C.coils
  shells : IsT 1 intCells w R.B R.lb C.shells
  plasma : IsT 1 intCells w R.C R.lc C.plasma
  la : R.la ≤ R.ca
  lb : R.lb ≤ R.cb
  lc : R.lc ≤ R.cc
  ca : R.ca ≤ 9223372036854775807
  cb : R.cb ≤ 9223372036854775807
  cc : R.cc ≤ 9223372036854775807
  ka : R.la ≤ 1000000000000000
  kb : R.lb ≤ 1000000000000000
  kc : R.lc ≤ 1000000000000000
theorem IsC.below {w w1 : World} {R : CurR} {C : CurD} (h : IsC w R C) (hb : Below w.heap.size w w1) : IsC w1 R C :=
  ⟨h.coils.below hb, h.shells.below hb, h.plasma.below hb, h.la, h.lb, h.lc, h.ca, h.cb, h.cc, h.ka, h.kb, h.kc⟩

set_option maxHeartbeats 1000000 in
theorem total_any (A B C : Option Addr) (la ca lb cb len cap : Nat) (zs : List Int) (w : World) (hI : IsT 1 intCells w C len zs) (hl : len ≤ 1000000000000000) :
    Calls Tryd.prog 46 #[.agg #[.slice A la ca, .slice B lb cb, .slice C len cap]] w (Ret (.int .i64 (tot 0 zs)) w) := by
  have HI := Lib.hid hI
  obtain ⟨G, hG0⟩ : ∃ G, tot 0 zs = G := ⟨_, rfl⟩
  have HG := Lib.hid hG0
  rw [hG0]
  clear hG0 hI
  go_enter Tryd.func46, Tryd.ntmps46
  go_wp2_with fail
  go_loopw [3, 5, 9] (fun s _ i wr => ∃ (j : Nat) (t : Int), j ≤ len ∧ i = .int .i64 j ∧ s = .int .i64 t ∧ Hid (tot t (zs.drop j) = G) ∧ Below w.heap.size w wr) (fun _ _ i _ => len - (intOf i).toNat)
  case atStart => exact ⟨0, 0, Nat.zero_le _, rfl, rfl, Lib.hid HG.out, by (repeat first | with_reducible exact Below.refl _ _ | with_reducible assumption | (with_reducible refine Below.setCell ?_ ?_ _; rotate_left; exact (by first | omega | (simp; done) | (simp; omega))) | (with_reducible refine Below.alloc ?_ ?_ _; rotate_left; exact (by first | omega | (simp; done) | (simp; omega))) | with_reducible refine Below.drew ?_ | with_reducible refine Below_drewN ?_ _)⟩
  case round =>
    obtain ⟨j, t, hj, rfl, rfl, hG, hB⟩ := hrel
    by_cases hlt : j < len
    · obtain ⟨hzl, hcl⟩ := HI.out.below hB
      obtain ⟨b, o, rfl, hb0, hcl⟩ := hcl (by omega)
      obtain ⟨x, hx⟩ : ∃ x, zs[j]? = some x := ⟨_, List.getElem?_eq_getElem (by omega)⟩
      have HN := Lib.hid ((tot_drop hx t).symm.trans hG.out)
      have x0 : wr.cell? ⟨b, o + j, none⟩ = some (.int .i64 x) := by have h := hcl j x hx 0 _ rfl; simpa using h
      clear hcl hx hzl
      go_wp2_with fail
      go_roundw
      case rel => exact ⟨j + 1, _, by omega, by go_num, rfl, HN, hB⟩
      case measure => simp [intOf]; omega
    · have HN : Hid (t = G) := Lib.hid (by rw [← hG.out, List.drop_of_length_le (by rw [HI.out.1]; omega)]; rfl)
      go_wp2
      go_ret
      exact ⟨by rw [← HN.out]; rfl, hB⟩

/-- Currents are valid for a machine. -/
def validC (M : MachD) (C : CurD) : Bool :=
  decide (checkC M = 0) && (decide (C.coils.length = M.coils.length) && (allW C.coils (-1000000) 1000000 && (decide (C.shells.length = M.shells.length) && (allW C.shells (-1000000) 1000000 &&
    (decide ((C.plasma.length : Int) = M.grid.nr * M.grid.nz) && (allW C.plasma 0 1000000 && decide (tot 0 C.plasma ≤ 1000000)))))))

end Go.Proofs.YtpnoinkiblnplaaDoor
end
