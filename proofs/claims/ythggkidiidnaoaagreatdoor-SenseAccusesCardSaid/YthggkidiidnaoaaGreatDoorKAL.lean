import Derived.Test.YthggkidiidnaoaaGreatDoorKAI
import Derived.Test.YthggkidiidnaoaaGreatDoorKAJ
import Derived.Test.YthggkidiidnaoaaGreatDoorKAK
import Derived.Deep.RegionHeld3
import Derived.Deep.DeepCutAuto
import Derived.Deep.QuietTactic
import Derived.BigQuiet
import Derived.IntWalk
namespace Go.Proofs.YthggkidiidnaoaaGreatDoor
set_option linter.unusedVariables false
set_option linter.unusedSimpArgs false
section
open Go.RowKit
set_option maxHeartbeats 4000000 in
theorem eachCoil (k : Nat) (chk : CoilD → List CoilD → Int) (most : Int) (A : Option Addr) (len cap : Nat) (zs : List CoilD) (w : World) (hI : IsT 8 CoilD.cells w A len zs) (hl : (len : Int) ≤ most → len ≤ 1000000000000000) (hcap : len ≤ cap) (hmax : cap ≤ 9223372036854775807)
  (hE : ∀ (args : Array Value) (W : World), (callFunc k args).run Tryz.prog W = .ok (.enter k args) W)
  (hk : (len : Int) ≤ most → ∀ (j : Nat) (x : CoilD) (W : World), zs[j]? = some x → Below w.heap.size w W → Calls Tryz.prog k #[CoilD.v x, .slice A j cap] W (Ret (.int .i64 (chk x (zs.take j))) W)) :
  Calls Tryz.prog 111 #[.slice A len cap, .int .i64 most, .func (.func k) #[] #[]] w (Ret (.int .i64 (eachC chk most zs)) w) := by
 have HI := Lib.hid hI
 have hz := hI.1
 by_cases hm : most < len
 ·have HG : Hid (eachC chk most zs = 4) := Lib.hid (by unfold eachC; rw [if_pos (by omega)])
  clear hI hk hz hl
  generalize eachC chk most zs = G at *
  go_enter Tryz.func111, Tryz.ntmps111
  go_wp2_with fail
  go_ret
  exact ⟨by rw [HG.out]; rfl, by (repeat with_reducible exact Below.refl _ _)⟩
 have hl := hl (by omega)
 have HK := Lib.hid (hk (by omega))
 have HG : Hid (eachC chk most zs = eachGo chk [] zs) := Lib.hid (by unfold eachC; rw [if_neg (by omega)])
 generalize eachC chk most zs = G at *
 clear hI hk hz
 go_enter Tryz.func111, Tryz.ntmps111
 go_wp2_with fail
 go_loopw [7, 8, 9, 16] (fun _ _ _ i wr => ∃ j : Nat, j ≤ len ∧ i = .int .i64 j ∧ Hid (eachGo chk (zs.take j) (zs.drop j) = G) ∧ Below w.heap.size w wr) (fun _ _ _ i _ => len - (intOf i).toNat)
 case atStart => exact ⟨0, Nat.zero_le _, rfl, Lib.hid HG.out.symm, Below.refl _ _⟩
 case round =>
  obtain ⟨j, hj, rfl, hG, hB⟩ := hrel
  by_cases hlt : j < len
  ·obtain ⟨hzl, hcl⟩ := HI.out.below hB
   obtain ⟨b, o, rfl, hb0, hcl⟩ := hcl (by omega)
   obtain ⟨x, hx⟩ : ∃ x, zs[j]? = some x := ⟨_, List.getElem?_eq_getElem (by omega)⟩
   have HS := Lib.hid (eachGo_step chk hx)
   have x0 : wr.cell? ⟨b, o + j * 8, none⟩ = some (.string x.name) := by have h := hcl j x hx 0 _ rfl; simpa using h
   have x1 : wr.cell? ⟨b, o + j * 8 + 1, none⟩ = some (.int .i64 x.r) := by have h := hcl j x hx 1 _ rfl; simpa using h
   have x2 : wr.cell? ⟨b, o + j * 8 + 2, none⟩ = some (.int .i64 x.z) := by have h := hcl j x hx 2 _ rfl; simpa using h
   have x3 : wr.cell? ⟨b, o + j * 8 + 3, none⟩ = some (.int .i64 x.turns) := by have h := hcl j x hx 3 _ rfl; simpa using h
   have x4 : wr.cell? ⟨b, o + j * 8 + 4, none⟩ = some (.int .i64 x.cur) := by have h := hcl j x hx 4 _ rfl; simpa using h
   have x5 : wr.cell? ⟨b, o + j * 8 + 5, none⟩ = some (.int .i64 x.step) := by have h := hcl j x hx 5 _ rfl; simpa using h
   have x6 : wr.cell? ⟨b, o + j * 8 + 6, none⟩ = some (.int .i64 x.heat) := by have h := hcl j x hx 6 _ rfl; simpa using h
   have x7 : wr.cell? ⟨b, o + j * 8 + 7, none⟩ = some (.int .i64 x.cool) := by have h := hcl j x hx 7 _ rfl; simpa using h
   have hsz := hB.size
   have HC := Lib.hid (fun W h => HK.out j x W hx h)
   clear hcl hx hzl
   have HS := Lib.hid (hG.out.symm.trans HS.out)
   obtain ⟨e, he⟩ : ∃ e, chk x (zs.take j) = e := ⟨_, rfl⟩
   rw [he] at HC HS
   clear he hG
   have jc : (j : Int) ≤ cap := by omega
   by_cases h0 : e = 0
   ·have HN : Hid (eachGo chk (zs.take (j + 1)) (zs.drop (j + 1)) = G) := Lib.hid (by rw [HS.out, if_pos h0])
    subst h0
    clear HS
    go_upto_region 6 with fail
    go_cut [9] (fun s9 wx => s9 = .int .i64 0 ∧ Below w.heap.size w wx)
    case first =>
     have HS : Hid (∀ w' : World, Reg (wr.heap.size + 1) ((wr.alloc (.cells #[.string x.name, .int .i64 x.r, .int .i64 x.z, .int .i64 x.turns, .int .i64 x.cur, .int .i64 x.step, .int .i64 x.heat, .int .i64 x.cool] 167))) w' → (Reg (wr.heap.size + 1) ((wr.alloc (.cells #[.string x.name, .int .i64 x.r, .int .i64 x.z, .int .i64 x.turns, .int .i64 x.cur, .int .i64 x.step, .int .i64 x.heat, .int .i64 x.cool] 167))) w' ∧ w'.cell? ⟨wr.heap.size, 0, none⟩ = some (.string x.name) ∧ w'.cell? ⟨wr.heap.size, 1, none⟩ = some (.int .i64 x.r) ∧ w'.cell? ⟨wr.heap.size, 2, none⟩ = some (.int .i64 x.z) ∧ w'.cell? ⟨wr.heap.size, 3, none⟩ = some (.int .i64 x.turns) ∧ w'.cell? ⟨wr.heap.size, 4, none⟩ = some (.int .i64 x.cur) ∧ w'.cell? ⟨wr.heap.size, 5, none⟩ = some (.int .i64 x.step) ∧ w'.cell? ⟨wr.heap.size, 6, none⟩ = some (.int .i64 x.heat) ∧ w'.cell? ⟨wr.heap.size, 7, none⟩ = some (.int .i64 x.cool))) := (fun w' h => by (have hc := h.cells; have hs := h.some; have hf := h.frozen; refine ⟨h, ?_⟩; (try simp only [World.size_alloc, World.size_setCell, size_drew, size_drewN] at hc hs hf); first | (simp (disch := omega) only [hc, hs, hf, cur_iff]; (try go_simp); done) | (simp (disch := first | omega | (simp; done)) only [hc, hs, hf, cur_iff]; (try go_simp); done) | (simp (maxDischargeDepth := 4) [hc, hs, hf, cur_iff, go_sem]; done) | (go_simp; done) | (simp (maxDischargeDepth := 4) [hc, hs, hf, cur_iff, go_sem]; go_simp))); go_region_held3 (fun w' => Reg (wr.heap.size + 1) ((wr.alloc (.cells #[.string x.name, .int .i64 x.r, .int .i64 x.z, .int .i64 x.turns, .int .i64 x.cur, .int .i64 x.step, .int .i64 x.heat, .int .i64 x.cool] 167))) w' ∧ w'.cell? ⟨wr.heap.size, 0, none⟩ = some (.string x.name) ∧ w'.cell? ⟨wr.heap.size, 1, none⟩ = some (.int .i64 x.r) ∧ w'.cell? ⟨wr.heap.size, 2, none⟩ = some (.int .i64 x.z) ∧ w'.cell? ⟨wr.heap.size, 3, none⟩ = some (.int .i64 x.turns) ∧ w'.cell? ⟨wr.heap.size, 4, none⟩ = some (.int .i64 x.cur) ∧ w'.cell? ⟨wr.heap.size, 5, none⟩ = some (.int .i64 x.step) ∧ w'.cell? ⟨wr.heap.size, 6, none⟩ = some (.int .i64 x.heat) ∧ w'.cell? ⟨wr.heap.size, 7, none⟩ = some (.int .i64 x.cool)) (exact HS.out _ (by (repeat first | with_reducible exact Reg.refl _ _ | with_reducible exact (‹Reg _ _ _ ∧ _›).1 | with_reducible refine Reg.drew ?_ | (with_reducible apply Reg.call; rotate_left; with_reducible assumption)))) (((with_reducible show Calls _ k _ _ _); refine (HC.out _ (Reg.out (‹Reg _ _ _ ∧ _›).1 (by (repeat first | with_reducible assumption | (with_reducible refine Below.alloc ?_ ?_ _; rotate_left; exact (by omega)))) (by omega))).mono ?_; rintro e w1 ⟨rfl, hb⟩; (with_reducible have hk := Nat.lt_of_lt_of_le (size_alloc_lt _ _) hb.size); (try simp only [World.size_alloc, World.size_setCell, size_drew, size_drewN] at hk); obtain ⟨hc, hf⟩ := bcell hb; have hs := hb.size; (try simp only [World.size_alloc, World.size_setCell, size_drew, size_drewN] at hs)))
     all_goals go_wp2_with fail
     all_goals go_meet
     all_goals exact ⟨rfl, (Reg.out (‹Reg _ _ _ ∧ _›).1 (by (repeat first | with_reducible assumption | (with_reducible refine Below.alloc ?_ ?_ _; rotate_left; exact (by omega)))) (by omega))⟩
    case rest =>
     obtain ⟨rfl, hB1⟩ := hcut
     go_wp2_with fail
     go_roundw
     case rel => exact ⟨j + 1, by omega, by go_num, HN, hB1⟩
     case measure => simp [intOf]; omega
   ·have HN : Hid (e = G) := Lib.hid (by rw [HS.out, if_neg h0])
    have hne : (e != 0) = true := by rw [bne_iff_ne]; exact h0
    clear HS
    go_upto_region 6 with fail
    go_cut [9] (fun s9 wx => s9 = .int .i64 e ∧ Below w.heap.size w wx)
    case first =>
     have HS : Hid (∀ w' : World, Reg (wr.heap.size + 1) ((wr.alloc (.cells #[.string x.name, .int .i64 x.r, .int .i64 x.z, .int .i64 x.turns, .int .i64 x.cur, .int .i64 x.step, .int .i64 x.heat, .int .i64 x.cool] 167))) w' → (Reg (wr.heap.size + 1) ((wr.alloc (.cells #[.string x.name, .int .i64 x.r, .int .i64 x.z, .int .i64 x.turns, .int .i64 x.cur, .int .i64 x.step, .int .i64 x.heat, .int .i64 x.cool] 167))) w' ∧ w'.cell? ⟨wr.heap.size, 0, none⟩ = some (.string x.name) ∧ w'.cell? ⟨wr.heap.size, 1, none⟩ = some (.int .i64 x.r) ∧ w'.cell? ⟨wr.heap.size, 2, none⟩ = some (.int .i64 x.z) ∧ w'.cell? ⟨wr.heap.size, 3, none⟩ = some (.int .i64 x.turns) ∧ w'.cell? ⟨wr.heap.size, 4, none⟩ = some (.int .i64 x.cur) ∧ w'.cell? ⟨wr.heap.size, 5, none⟩ = some (.int .i64 x.step) ∧ w'.cell? ⟨wr.heap.size, 6, none⟩ = some (.int .i64 x.heat) ∧ w'.cell? ⟨wr.heap.size, 7, none⟩ = some (.int .i64 x.cool))) := (fun w' h => by (have hc := h.cells; have hs := h.some; have hf := h.frozen; refine ⟨h, ?_⟩; (try simp only [World.size_alloc, World.size_setCell, size_drew, size_drewN] at hc hs hf); first | (simp (disch := omega) only [hc, hs, hf, cur_iff]; (try go_simp); done) | (simp (disch := first | omega | (simp; done)) only [hc, hs, hf, cur_iff]; (try go_simp); done) | (simp (maxDischargeDepth := 4) [hc, hs, hf, cur_iff, go_sem]; done) | (go_simp; done) | (simp (maxDischargeDepth := 4) [hc, hs, hf, cur_iff, go_sem]; go_simp))); go_region_held3 (fun w' => Reg (wr.heap.size + 1) ((wr.alloc (.cells #[.string x.name, .int .i64 x.r, .int .i64 x.z, .int .i64 x.turns, .int .i64 x.cur, .int .i64 x.step, .int .i64 x.heat, .int .i64 x.cool] 167))) w' ∧ w'.cell? ⟨wr.heap.size, 0, none⟩ = some (.string x.name) ∧ w'.cell? ⟨wr.heap.size, 1, none⟩ = some (.int .i64 x.r) ∧ w'.cell? ⟨wr.heap.size, 2, none⟩ = some (.int .i64 x.z) ∧ w'.cell? ⟨wr.heap.size, 3, none⟩ = some (.int .i64 x.turns) ∧ w'.cell? ⟨wr.heap.size, 4, none⟩ = some (.int .i64 x.cur) ∧ w'.cell? ⟨wr.heap.size, 5, none⟩ = some (.int .i64 x.step) ∧ w'.cell? ⟨wr.heap.size, 6, none⟩ = some (.int .i64 x.heat) ∧ w'.cell? ⟨wr.heap.size, 7, none⟩ = some (.int .i64 x.cool)) (exact HS.out _ (by (repeat first | with_reducible exact Reg.refl _ _ | with_reducible exact (‹Reg _ _ _ ∧ _›).1 | with_reducible refine Reg.drew ?_ | (with_reducible apply Reg.call; rotate_left; with_reducible assumption)))) (((with_reducible show Calls _ k _ _ _); refine (HC.out _ (Reg.out (‹Reg _ _ _ ∧ _›).1 (by (repeat first | with_reducible assumption | (with_reducible refine Below.alloc ?_ ?_ _; rotate_left; exact (by omega)))) (by omega))).mono ?_; rintro e w1 ⟨rfl, hb⟩; (with_reducible have hk := Nat.lt_of_lt_of_le (size_alloc_lt _ _) hb.size); (try simp only [World.size_alloc, World.size_setCell, size_drew, size_drewN] at hk); obtain ⟨hc, hf⟩ := bcell hb; have hs := hb.size; (try simp only [World.size_alloc, World.size_setCell, size_drew, size_drewN] at hs)))
     all_goals go_wp2_with fail
     all_goals go_meet
     all_goals exact ⟨rfl, (Reg.out (‹Reg _ _ _ ∧ _›).1 (by (repeat first | with_reducible assumption | (with_reducible refine Below.alloc ?_ ?_ _; rotate_left; exact (by omega)))) (by omega))⟩
    case rest =>
     obtain ⟨rfl, hB1⟩ := hcut
     go_wp2_with fail
     go_ret
     exact ⟨by rw [← HN.out]; rfl, hB1⟩
  ·have HN : Hid ((0 : Int) = G) := Lib.hid (by rw [← hG.out, List.drop_of_length_le (by rw [HI.out.1]; omega)]; rfl)
   go_wp2
   go_ret
   exact ⟨by rw [← HN.out]; rfl, hB⟩
end
section
open Go.RowKit
set_option maxHeartbeats 4000000 in
theorem eachShell (k : Nat) (chk : ShellD → List ShellD → Int) (most : Int) (A : Option Addr) (len cap : Nat) (zs : List ShellD) (w : World) (hI : IsT 4 ShellD.cells w A len zs) (hl : (len : Int) ≤ most → len ≤ 1000000000000000) (hcap : len ≤ cap) (hmax : cap ≤ 9223372036854775807)
  (hE : ∀ (args : Array Value) (W : World), (callFunc k args).run Tryz.prog W = .ok (.enter k args) W)
  (hk : (len : Int) ≤ most → ∀ (j : Nat) (x : ShellD) (W : World), zs[j]? = some x → Below w.heap.size w W → Calls Tryz.prog k #[ShellD.v x, .slice A j cap] W (Ret (.int .i64 (chk x (zs.take j))) W)) :
  Calls Tryz.prog 113 #[.slice A len cap, .int .i64 most, .func (.func k) #[] #[]] w (Ret (.int .i64 (eachC chk most zs)) w) := by
 have HI := Lib.hid hI
 have hz := hI.1
 by_cases hm : most < len
 ·have HG : Hid (eachC chk most zs = 4) := Lib.hid (by unfold eachC; rw [if_pos (by omega)])
  clear hI hk hz hl
  generalize eachC chk most zs = G at *
  go_enter Tryz.func113, Tryz.ntmps113
  go_wp2_with fail
  go_ret
  exact ⟨by rw [HG.out]; rfl, by (repeat with_reducible exact Below.refl _ _)⟩
 have hl := hl (by omega)
 have HK := Lib.hid (hk (by omega))
 have HG : Hid (eachC chk most zs = eachGo chk [] zs) := Lib.hid (by unfold eachC; rw [if_neg (by omega)])
 generalize eachC chk most zs = G at *
 clear hI hk hz
 go_enter Tryz.func113, Tryz.ntmps113
 go_wp2_with fail
 go_loopw [7, 8, 9, 16] (fun _ _ _ i wr => ∃ j : Nat, j ≤ len ∧ i = .int .i64 j ∧ Hid (eachGo chk (zs.take j) (zs.drop j) = G) ∧ Below w.heap.size w wr) (fun _ _ _ i _ => len - (intOf i).toNat)
 case atStart => exact ⟨0, Nat.zero_le _, rfl, Lib.hid HG.out.symm, Below.refl _ _⟩
 case round =>
  obtain ⟨j, hj, rfl, hG, hB⟩ := hrel
  by_cases hlt : j < len
  ·obtain ⟨hzl, hcl⟩ := HI.out.below hB
   obtain ⟨b, o, rfl, hb0, hcl⟩ := hcl (by omega)
   obtain ⟨x, hx⟩ : ∃ x, zs[j]? = some x := ⟨_, List.getElem?_eq_getElem (by omega)⟩
   have HS := Lib.hid (eachGo_step chk hx)
   have x0 : wr.cell? ⟨b, o + j * 4, none⟩ = some (.int .i64 x.r) := by have h := hcl j x hx 0 _ rfl; simpa using h
   have x1 : wr.cell? ⟨b, o + j * 4 + 1, none⟩ = some (.int .i64 x.z) := by have h := hcl j x hx 1 _ rfl; simpa using h
   have x2 : wr.cell? ⟨b, o + j * 4 + 2, none⟩ = some (.int .i64 x.self) := by have h := hcl j x hx 2 _ rfl; simpa using h
   have x3 : wr.cell? ⟨b, o + j * 4 + 3, none⟩ = some (.int .i64 x.loss) := by have h := hcl j x hx 3 _ rfl; simpa using h
   have hsz := hB.size
   have HC := Lib.hid (fun W h => HK.out j x W hx h)
   clear hcl hx hzl
   have HS := Lib.hid (hG.out.symm.trans HS.out)
   obtain ⟨e, he⟩ : ∃ e, chk x (zs.take j) = e := ⟨_, rfl⟩
   rw [he] at HC HS
   clear he hG
   have jc : (j : Int) ≤ cap := by omega
   by_cases h0 : e = 0
   ·have HN : Hid (eachGo chk (zs.take (j + 1)) (zs.drop (j + 1)) = G) := Lib.hid (by rw [HS.out, if_pos h0])
    subst h0
    clear HS
    go_upto_region 6 with fail
    go_cut [9] (fun s9 wx => s9 = .int .i64 0 ∧ Below w.heap.size w wx)
    case first =>
     have HS : Hid (∀ w' : World, Reg (wr.heap.size + 1) ((wr.alloc (.cells #[.int .i64 x.r, .int .i64 x.z, .int .i64 x.self, .int .i64 x.loss] 171))) w' → (Reg (wr.heap.size + 1) ((wr.alloc (.cells #[.int .i64 x.r, .int .i64 x.z, .int .i64 x.self, .int .i64 x.loss] 171))) w' ∧ w'.cell? ⟨wr.heap.size, 0, none⟩ = some (.int .i64 x.r) ∧ w'.cell? ⟨wr.heap.size, 1, none⟩ = some (.int .i64 x.z) ∧ w'.cell? ⟨wr.heap.size, 2, none⟩ = some (.int .i64 x.self) ∧ w'.cell? ⟨wr.heap.size, 3, none⟩ = some (.int .i64 x.loss))) := (fun w' h => by (have hc := h.cells; have hs := h.some; have hf := h.frozen; refine ⟨h, ?_⟩; (try simp only [World.size_alloc, World.size_setCell, size_drew, size_drewN] at hc hs hf); first | (simp (disch := omega) only [hc, hs, hf, cur_iff]; (try go_simp); done) | (simp (disch := first | omega | (simp; done)) only [hc, hs, hf, cur_iff]; (try go_simp); done) | (simp (maxDischargeDepth := 4) [hc, hs, hf, cur_iff, go_sem]; done) | (go_simp; done) | (simp (maxDischargeDepth := 4) [hc, hs, hf, cur_iff, go_sem]; go_simp))); go_region_held3 (fun w' => Reg (wr.heap.size + 1) ((wr.alloc (.cells #[.int .i64 x.r, .int .i64 x.z, .int .i64 x.self, .int .i64 x.loss] 171))) w' ∧ w'.cell? ⟨wr.heap.size, 0, none⟩ = some (.int .i64 x.r) ∧ w'.cell? ⟨wr.heap.size, 1, none⟩ = some (.int .i64 x.z) ∧ w'.cell? ⟨wr.heap.size, 2, none⟩ = some (.int .i64 x.self) ∧ w'.cell? ⟨wr.heap.size, 3, none⟩ = some (.int .i64 x.loss)) (exact HS.out _ (by (repeat first | with_reducible exact Reg.refl _ _ | with_reducible exact (‹Reg _ _ _ ∧ _›).1 | with_reducible refine Reg.drew ?_ | (with_reducible apply Reg.call; rotate_left; with_reducible assumption)))) (((with_reducible show Calls _ k _ _ _); refine (HC.out _ (Reg.out (‹Reg _ _ _ ∧ _›).1 (by (repeat first | with_reducible assumption | (with_reducible refine Below.alloc ?_ ?_ _; rotate_left; exact (by omega)))) (by omega))).mono ?_; rintro e w1 ⟨rfl, hb⟩; (with_reducible have hk := Nat.lt_of_lt_of_le (size_alloc_lt _ _) hb.size); (try simp only [World.size_alloc, World.size_setCell, size_drew, size_drewN] at hk); obtain ⟨hc, hf⟩ := bcell hb; have hs := hb.size; (try simp only [World.size_alloc, World.size_setCell, size_drew, size_drewN] at hs)))
     all_goals go_wp2_with fail
     all_goals go_meet
     all_goals exact ⟨rfl, (Reg.out (‹Reg _ _ _ ∧ _›).1 (by (repeat first | with_reducible assumption | (with_reducible refine Below.alloc ?_ ?_ _; rotate_left; exact (by omega)))) (by omega))⟩
    case rest =>
     obtain ⟨rfl, hB1⟩ := hcut
     go_wp2_with fail
     go_roundw
     case rel => exact ⟨j + 1, by omega, by go_num, HN, hB1⟩
     case measure => simp [intOf]; omega
   ·have HN : Hid (e = G) := Lib.hid (by rw [HS.out, if_neg h0])
    have hne : (e != 0) = true := by rw [bne_iff_ne]; exact h0
    clear HS
    go_upto_region 6 with fail
    go_cut [9] (fun s9 wx => s9 = .int .i64 e ∧ Below w.heap.size w wx)
    case first =>
     have HS : Hid (∀ w' : World, Reg (wr.heap.size + 1) ((wr.alloc (.cells #[.int .i64 x.r, .int .i64 x.z, .int .i64 x.self, .int .i64 x.loss] 171))) w' → (Reg (wr.heap.size + 1) ((wr.alloc (.cells #[.int .i64 x.r, .int .i64 x.z, .int .i64 x.self, .int .i64 x.loss] 171))) w' ∧ w'.cell? ⟨wr.heap.size, 0, none⟩ = some (.int .i64 x.r) ∧ w'.cell? ⟨wr.heap.size, 1, none⟩ = some (.int .i64 x.z) ∧ w'.cell? ⟨wr.heap.size, 2, none⟩ = some (.int .i64 x.self) ∧ w'.cell? ⟨wr.heap.size, 3, none⟩ = some (.int .i64 x.loss))) := (fun w' h => by (have hc := h.cells; have hs := h.some; have hf := h.frozen; refine ⟨h, ?_⟩; (try simp only [World.size_alloc, World.size_setCell, size_drew, size_drewN] at hc hs hf); first | (simp (disch := omega) only [hc, hs, hf, cur_iff]; (try go_simp); done) | (simp (disch := first | omega | (simp; done)) only [hc, hs, hf, cur_iff]; (try go_simp); done) | (simp (maxDischargeDepth := 4) [hc, hs, hf, cur_iff, go_sem]; done) | (go_simp; done) | (simp (maxDischargeDepth := 4) [hc, hs, hf, cur_iff, go_sem]; go_simp))); go_region_held3 (fun w' => Reg (wr.heap.size + 1) ((wr.alloc (.cells #[.int .i64 x.r, .int .i64 x.z, .int .i64 x.self, .int .i64 x.loss] 171))) w' ∧ w'.cell? ⟨wr.heap.size, 0, none⟩ = some (.int .i64 x.r) ∧ w'.cell? ⟨wr.heap.size, 1, none⟩ = some (.int .i64 x.z) ∧ w'.cell? ⟨wr.heap.size, 2, none⟩ = some (.int .i64 x.self) ∧ w'.cell? ⟨wr.heap.size, 3, none⟩ = some (.int .i64 x.loss)) (exact HS.out _ (by (repeat first | with_reducible exact Reg.refl _ _ | with_reducible exact (‹Reg _ _ _ ∧ _›).1 | with_reducible refine Reg.drew ?_ | (with_reducible apply Reg.call; rotate_left; with_reducible assumption)))) (((with_reducible show Calls _ k _ _ _); refine (HC.out _ (Reg.out (‹Reg _ _ _ ∧ _›).1 (by (repeat first | with_reducible assumption | (with_reducible refine Below.alloc ?_ ?_ _; rotate_left; exact (by omega)))) (by omega))).mono ?_; rintro e w1 ⟨rfl, hb⟩; (with_reducible have hk := Nat.lt_of_lt_of_le (size_alloc_lt _ _) hb.size); (try simp only [World.size_alloc, World.size_setCell, size_drew, size_drewN] at hk); obtain ⟨hc, hf⟩ := bcell hb; have hs := hb.size; (try simp only [World.size_alloc, World.size_setCell, size_drew, size_drewN] at hs)))
     all_goals go_wp2_with fail
     all_goals go_meet
     all_goals exact ⟨rfl, (Reg.out (‹Reg _ _ _ ∧ _›).1 (by (repeat first | with_reducible assumption | (with_reducible refine Below.alloc ?_ ?_ _; rotate_left; exact (by omega)))) (by omega))⟩
    case rest =>
     obtain ⟨rfl, hB1⟩ := hcut
     go_wp2_with fail
     go_ret
     exact ⟨by rw [← HN.out]; rfl, hB1⟩
  ·have HN : Hid ((0 : Int) = G) := Lib.hid (by rw [← hG.out, List.drop_of_length_le (by rw [HI.out.1]; omega)]; rfl)
   go_wp2
   go_ret
   exact ⟨by rw [← HN.out]; rfl, hB⟩
end
section
open Go.RowKit
set_option maxHeartbeats 4000000 in
theorem eachSensor (k : Nat) (chk : SensorD → List SensorD → Int) (most : Int) (A : Option Addr) (len cap : Nat) (zs : List SensorD) (w : World) (hI : IsT 5 SensorD.cells w A len zs) (hl : (len : Int) ≤ most → len ≤ 1000000000000000) (hcap : len ≤ cap) (hmax : cap ≤ 9223372036854775807)
  (hE : ∀ (args : Array Value) (W : World), (callFunc k args).run Tryz.prog W = .ok (.enter k args) W)
  (hk : (len : Int) ≤ most → ∀ (j : Nat) (x : SensorD) (W : World), zs[j]? = some x → Below w.heap.size w W → Calls Tryz.prog k #[SensorD.v x, .slice A j cap] W (Ret (.int .i64 (chk x (zs.take j))) W)) :
  Calls Tryz.prog 117 #[.slice A len cap, .int .i64 most, .func (.func k) #[] #[]] w (Ret (.int .i64 (eachC chk most zs)) w) := by
 have HI := Lib.hid hI
 have hz := hI.1
 by_cases hm : most < len
 ·have HG : Hid (eachC chk most zs = 4) := Lib.hid (by unfold eachC; rw [if_pos (by omega)])
  clear hI hk hz hl
  generalize eachC chk most zs = G at *
  go_enter Tryz.func117, Tryz.ntmps117
  go_wp2_with fail
  go_ret
  exact ⟨by rw [HG.out]; rfl, by (repeat with_reducible exact Below.refl _ _)⟩
 have hl := hl (by omega)
 have HK := Lib.hid (hk (by omega))
 have HG : Hid (eachC chk most zs = eachGo chk [] zs) := Lib.hid (by unfold eachC; rw [if_neg (by omega)])
 generalize eachC chk most zs = G at *
 clear hI hk hz
 go_enter Tryz.func117, Tryz.ntmps117
 go_wp2_with fail
 go_loopw [7, 8, 9, 16] (fun _ _ _ i wr => ∃ j : Nat, j ≤ len ∧ i = .int .i64 j ∧ Hid (eachGo chk (zs.take j) (zs.drop j) = G) ∧ Below w.heap.size w wr) (fun _ _ _ i _ => len - (intOf i).toNat)
 case atStart => exact ⟨0, Nat.zero_le _, rfl, Lib.hid HG.out.symm, Below.refl _ _⟩
 case round =>
  obtain ⟨j, hj, rfl, hG, hB⟩ := hrel
  by_cases hlt : j < len
  ·obtain ⟨hzl, hcl⟩ := HI.out.below hB
   obtain ⟨b, o, rfl, hb0, hcl⟩ := hcl (by omega)
   obtain ⟨x, hx⟩ : ∃ x, zs[j]? = some x := ⟨_, List.getElem?_eq_getElem (by omega)⟩
   have HS := Lib.hid (eachGo_step chk hx)
   have x0 : wr.cell? ⟨b, o + j * 5, none⟩ = some (.string x.name) := by have h := hcl j x hx 0 _ rfl; simpa using h
   have x1 : wr.cell? ⟨b, o + j * 5 + 1, none⟩ = some (.int .i64 x.kind) := by have h := hcl j x hx 1 _ rfl; simpa using h
   have x2 : wr.cell? ⟨b, o + j * 5 + 2, none⟩ = some (.int .i64 x.r) := by have h := hcl j x hx 2 _ rfl; simpa using h
   have x3 : wr.cell? ⟨b, o + j * 5 + 3, none⟩ = some (.int .i64 x.z) := by have h := hcl j x hx 3 _ rfl; simpa using h
   have x4 : wr.cell? ⟨b, o + j * 5 + 4, none⟩ = some (.int .i64 x.error) := by have h := hcl j x hx 4 _ rfl; simpa using h
   have hsz := hB.size
   have HC := Lib.hid (fun W h => HK.out j x W hx h)
   clear hcl hx hzl
   have HS := Lib.hid (hG.out.symm.trans HS.out)
   obtain ⟨e, he⟩ : ∃ e, chk x (zs.take j) = e := ⟨_, rfl⟩
   rw [he] at HC HS
   clear he hG
   have jc : (j : Int) ≤ cap := by omega
   by_cases h0 : e = 0
   ·have HN : Hid (eachGo chk (zs.take (j + 1)) (zs.drop (j + 1)) = G) := Lib.hid (by rw [HS.out, if_pos h0])
    subst h0
    clear HS
    go_upto_region 6 with fail
    go_cut [9] (fun s9 wx => s9 = .int .i64 0 ∧ Below w.heap.size w wx)
    case first =>
     have HS : Hid (∀ w' : World, Reg (wr.heap.size + 1) ((wr.alloc (.cells #[.string x.name, .int .i64 x.kind, .int .i64 x.r, .int .i64 x.z, .int .i64 x.error] 78))) w' → (Reg (wr.heap.size + 1) ((wr.alloc (.cells #[.string x.name, .int .i64 x.kind, .int .i64 x.r, .int .i64 x.z, .int .i64 x.error] 78))) w' ∧ w'.cell? ⟨wr.heap.size, 0, none⟩ = some (.string x.name) ∧ w'.cell? ⟨wr.heap.size, 1, none⟩ = some (.int .i64 x.kind) ∧ w'.cell? ⟨wr.heap.size, 2, none⟩ = some (.int .i64 x.r) ∧ w'.cell? ⟨wr.heap.size, 3, none⟩ = some (.int .i64 x.z) ∧ w'.cell? ⟨wr.heap.size, 4, none⟩ = some (.int .i64 x.error))) := (fun w' h => by (have hc := h.cells; have hs := h.some; have hf := h.frozen; refine ⟨h, ?_⟩; (try simp only [World.size_alloc, World.size_setCell, size_drew, size_drewN] at hc hs hf); first | (simp (disch := omega) only [hc, hs, hf, cur_iff]; (try go_simp); done) | (simp (disch := first | omega | (simp; done)) only [hc, hs, hf, cur_iff]; (try go_simp); done) | (simp (maxDischargeDepth := 4) [hc, hs, hf, cur_iff, go_sem]; done) | (go_simp; done) | (simp (maxDischargeDepth := 4) [hc, hs, hf, cur_iff, go_sem]; go_simp))); go_region_held3 (fun w' => Reg (wr.heap.size + 1) ((wr.alloc (.cells #[.string x.name, .int .i64 x.kind, .int .i64 x.r, .int .i64 x.z, .int .i64 x.error] 78))) w' ∧ w'.cell? ⟨wr.heap.size, 0, none⟩ = some (.string x.name) ∧ w'.cell? ⟨wr.heap.size, 1, none⟩ = some (.int .i64 x.kind) ∧ w'.cell? ⟨wr.heap.size, 2, none⟩ = some (.int .i64 x.r) ∧ w'.cell? ⟨wr.heap.size, 3, none⟩ = some (.int .i64 x.z) ∧ w'.cell? ⟨wr.heap.size, 4, none⟩ = some (.int .i64 x.error)) (exact HS.out _ (by (repeat first | with_reducible exact Reg.refl _ _ | with_reducible exact (‹Reg _ _ _ ∧ _›).1 | with_reducible refine Reg.drew ?_ | (with_reducible apply Reg.call; rotate_left; with_reducible assumption)))) (((with_reducible show Calls _ k _ _ _); refine (HC.out _ (Reg.out (‹Reg _ _ _ ∧ _›).1 (by (repeat first | with_reducible assumption | (with_reducible refine Below.alloc ?_ ?_ _; rotate_left; exact (by omega)))) (by omega))).mono ?_; rintro e w1 ⟨rfl, hb⟩; (with_reducible have hk := Nat.lt_of_lt_of_le (size_alloc_lt _ _) hb.size); (try simp only [World.size_alloc, World.size_setCell, size_drew, size_drewN] at hk); obtain ⟨hc, hf⟩ := bcell hb; have hs := hb.size; (try simp only [World.size_alloc, World.size_setCell, size_drew, size_drewN] at hs)))
     all_goals go_wp2_with fail
     all_goals go_meet
     all_goals exact ⟨rfl, (Reg.out (‹Reg _ _ _ ∧ _›).1 (by (repeat first | with_reducible assumption | (with_reducible refine Below.alloc ?_ ?_ _; rotate_left; exact (by omega)))) (by omega))⟩
    case rest =>
     obtain ⟨rfl, hB1⟩ := hcut
     go_wp2_with fail
     go_roundw
     case rel => exact ⟨j + 1, by omega, by go_num, HN, hB1⟩
     case measure => simp [intOf]; omega
   ·have HN : Hid (e = G) := Lib.hid (by rw [HS.out, if_neg h0])
    have hne : (e != 0) = true := by rw [bne_iff_ne]; exact h0
    clear HS
    go_upto_region 6 with fail
    go_cut [9] (fun s9 wx => s9 = .int .i64 e ∧ Below w.heap.size w wx)
    case first =>
     have HS : Hid (∀ w' : World, Reg (wr.heap.size + 1) ((wr.alloc (.cells #[.string x.name, .int .i64 x.kind, .int .i64 x.r, .int .i64 x.z, .int .i64 x.error] 78))) w' → (Reg (wr.heap.size + 1) ((wr.alloc (.cells #[.string x.name, .int .i64 x.kind, .int .i64 x.r, .int .i64 x.z, .int .i64 x.error] 78))) w' ∧ w'.cell? ⟨wr.heap.size, 0, none⟩ = some (.string x.name) ∧ w'.cell? ⟨wr.heap.size, 1, none⟩ = some (.int .i64 x.kind) ∧ w'.cell? ⟨wr.heap.size, 2, none⟩ = some (.int .i64 x.r) ∧ w'.cell? ⟨wr.heap.size, 3, none⟩ = some (.int .i64 x.z) ∧ w'.cell? ⟨wr.heap.size, 4, none⟩ = some (.int .i64 x.error))) := (fun w' h => by (have hc := h.cells; have hs := h.some; have hf := h.frozen; refine ⟨h, ?_⟩; (try simp only [World.size_alloc, World.size_setCell, size_drew, size_drewN] at hc hs hf); first | (simp (disch := omega) only [hc, hs, hf, cur_iff]; (try go_simp); done) | (simp (disch := first | omega | (simp; done)) only [hc, hs, hf, cur_iff]; (try go_simp); done) | (simp (maxDischargeDepth := 4) [hc, hs, hf, cur_iff, go_sem]; done) | (go_simp; done) | (simp (maxDischargeDepth := 4) [hc, hs, hf, cur_iff, go_sem]; go_simp))); go_region_held3 (fun w' => Reg (wr.heap.size + 1) ((wr.alloc (.cells #[.string x.name, .int .i64 x.kind, .int .i64 x.r, .int .i64 x.z, .int .i64 x.error] 78))) w' ∧ w'.cell? ⟨wr.heap.size, 0, none⟩ = some (.string x.name) ∧ w'.cell? ⟨wr.heap.size, 1, none⟩ = some (.int .i64 x.kind) ∧ w'.cell? ⟨wr.heap.size, 2, none⟩ = some (.int .i64 x.r) ∧ w'.cell? ⟨wr.heap.size, 3, none⟩ = some (.int .i64 x.z) ∧ w'.cell? ⟨wr.heap.size, 4, none⟩ = some (.int .i64 x.error)) (exact HS.out _ (by (repeat first | with_reducible exact Reg.refl _ _ | with_reducible exact (‹Reg _ _ _ ∧ _›).1 | with_reducible refine Reg.drew ?_ | (with_reducible apply Reg.call; rotate_left; with_reducible assumption)))) (((with_reducible show Calls _ k _ _ _); refine (HC.out _ (Reg.out (‹Reg _ _ _ ∧ _›).1 (by (repeat first | with_reducible assumption | (with_reducible refine Below.alloc ?_ ?_ _; rotate_left; exact (by omega)))) (by omega))).mono ?_; rintro e w1 ⟨rfl, hb⟩; (with_reducible have hk := Nat.lt_of_lt_of_le (size_alloc_lt _ _) hb.size); (try simp only [World.size_alloc, World.size_setCell, size_drew, size_drewN] at hk); obtain ⟨hc, hf⟩ := bcell hb; have hs := hb.size; (try simp only [World.size_alloc, World.size_setCell, size_drew, size_drewN] at hs)))
     all_goals go_wp2_with fail
     all_goals go_meet
     all_goals exact ⟨rfl, (Reg.out (‹Reg _ _ _ ∧ _›).1 (by (repeat first | with_reducible assumption | (with_reducible refine Below.alloc ?_ ?_ _; rotate_left; exact (by omega)))) (by omega))⟩
    case rest =>
     obtain ⟨rfl, hB1⟩ := hcut
     go_wp2_with fail
     go_ret
     exact ⟨by rw [← HN.out]; rfl, hB1⟩
  ·have HN : Hid ((0 : Int) = G) := Lib.hid (by rw [← hG.out, List.drop_of_length_le (by rw [HI.out.1]; omega)]; rfl)
   go_wp2
   go_ret
   exact ⟨by rw [← HN.out]; rfl, hB⟩
end
section
open Go.RowKit Go.Shelf
structure MachR where
 (A B C D : Option Addr) (la ca lb cb lc cc ld cd : Nat)
def machCells (R : MachR) (M : MachD) : Array Value :=
 #[.string M.name, .slice R.A R.la R.ca, .slice R.B R.lb R.cb, .slice R.C R.lc R.cc, .int .i64 M.grid.r, .int .i64 M.grid.z, .int .i64 M.grid.nr, .int .i64 M.grid.nz, .int .i64 M.grid.step, .slice R.D R.ld R.cd]
structure IsM (w : World) (R : MachR) (M : MachD) : Prop where
 coils : IsT 8 CoilD.cells w R.A R.la M.coils
 shells : IsT 4 ShellD.cells w R.B R.lb M.shells
 limits : IsT 2 PointD.cells w R.C R.lc M.limits
 sensors : IsT 5 SensorD.cells w R.D R.ld M.sensors
 la : R.la ≤ R.ca
 lb : R.lb ≤ R.cb
 lc : R.lc ≤ R.cc
 ld : R.ld ≤ R.cd
 ca : R.ca ≤ 9223372036854775807
 cb : R.cb ≤ 9223372036854775807
 cc : R.cc ≤ 9223372036854775807
 cd : R.cd ≤ 9223372036854775807
 ka : R.la ≤ 1000000000000000
 kb : R.lb ≤ 1000000000000000
 kc : R.lc ≤ 1000000000000000
 kd : R.ld ≤ 1000000000000000
structure IsMo (w : World) (R : MachR) (M : MachD) : Prop where
 coils : IsT 8 CoilD.cells w R.A R.la M.coils
 shells : IsT 4 ShellD.cells w R.B R.lb M.shells
 limits : IsT 2 PointD.cells w R.C R.lc M.limits
 sensors : IsT 5 SensorD.cells w R.D R.ld M.sensors
 la : R.la ≤ R.ca
 lb : R.lb ≤ R.cb
 lc : R.lc ≤ R.cc
 ld : R.ld ≤ R.cd
 ca : R.ca ≤ 9223372036854775807
 cb : R.cb ≤ 9223372036854775807
 cc : R.cc ≤ 9223372036854775807
 cd : R.cd ≤ 9223372036854775807
theorem IsMo.below {w w1 : World} {R : MachR} {M : MachD} (h : IsMo w R M) (hb : Below w.heap.size w w1) : IsMo w1 R M :=
 ⟨h.coils.below hb, h.shells.below hb, h.limits.below hb, h.sensors.below hb, h.la, h.lb, h.lc, h.ld, h.ca, h.cb, h.cc, h.cd⟩
theorem IsM.mo {w : World} {R : MachR} {M : MachD} (h : IsM w R M) : IsMo w R M := ⟨h.coils, h.shells, h.limits, h.sensors, h.la, h.lb, h.lc, h.ld, h.ca, h.cb, h.cc, h.cd⟩
theorem IsM.below {w w1 : World} {R : MachR} {M : MachD} (h : IsM w R M) (hb : Below w.heap.size w w1) : IsM w1 R M :=
 ⟨h.coils.below hb, h.shells.below hb, h.limits.below hb, h.sensors.below hb, h.la, h.lb, h.lc, h.ld, h.ca, h.cb, h.cc, h.cd, h.ka, h.kb, h.kc, h.kd⟩
theorem isT_new (W : World) (cs : List Int) (t : TypeId) : IsT 1 intCells (W.alloc (.cells (cs.map (Value.int .i64)).toArray t)) (some ⟨W.heap.size, 0, none⟩) cs.length cs :=
 ⟨rfl, fun _ => ⟨_, 0, rfl, by simp, fun j x hx i v hv => by
  rcases i with _ | i
  ·obtain rfl : Value.int .i64 x = v := by simpa [intCells] using hv
   obtain ⟨hj, rfl⟩ := List.getElem?_eq_some_iff.1 hx
   simp [go_sem, hj]
  ·simp [intCells] at hv⟩⟩
theorem check_each {α : Type} {n : Nat} {enc : α → List Value} {w : World} {A : Option Addr} {len : Nat} {zs : List α} (h : IsT n enc w A len zs) {j : Nat} {x : α} (hx : zs[j]? = some x) : IsT n enc w A j (zs.take j) ∧ j ≤ len :=
 have hj : j < zs.length := (List.getElem?_eq_some_iff.1 hx).1
 have : j ≤ len := by rw [h.1] at hj; omega
 ⟨h.take this, this⟩
set_option maxRecDepth 100000 in
set_option maxHeartbeats 8000000 in
theorem check_open (R : MachR) (M : MachD) (w : World) (hM : IsMo w R M) :
  Calls Tryz.prog 71 #[.agg (machCells R M)] w (Ret (.int .i64 (checkC M)) w) := by
 have HE : Hid (checkC M = orL [nameC M.name, eachC coilC 12 M.coils, eachC shellC 16 M.shells, limitsC M.limits, gridC M.grid, eachC sensorC 24 M.sensors]) := Lib.hid rfl
 have H1 := Lib.hid (fun W => checkName_any M.name W)
 have H2 := Lib.hid (fun W (hb : Below w.heap.size w W) => eachCoil 112 coilC 12 R.A R.la R.ca M.coils W (hM.below hb).coils (fun h => by omega) hM.la (by have := hM.ca; omega) (fun args W => enters_of Tryz.func112 (by kernel_rfl) rfl args W)
  (fun hl9 j x W' hx hb' => checkCoil_any x R.A j R.ca (M.coils.take j) W' (check_each ((hM.below hb).coils.below hb') hx).1 (by have := (check_each hM.coils hx).2; omega)))
 have H3 := Lib.hid (fun W (hb : Below w.heap.size w W) => eachShell 114 shellC 16 R.B R.lb R.cb M.shells W (hM.below hb).shells (fun h => by omega) hM.lb (by have := hM.cb; omega) (fun args W => enters_of Tryz.func114 (by kernel_rfl) rfl args W)
  (fun hl9 j x W' hx hb' => checkShell_any x R.B j R.cb (M.shells.take j) W'))
 have H4 := Lib.hid (fun W (hb : Below w.heap.size w W) => checkLimits_any R.C R.lc R.cc M.limits W (hM.below hb).limits hM.lc (by have := hM.cc; omega))
 have H5 := Lib.hid (fun W => checkGrid_any M.grid W)
 have H6 := Lib.hid (fun W (hb : Below w.heap.size w W) => eachSensor 118 sensorC 24 R.D R.ld R.cd M.sensors W (hM.below hb).sensors (fun h => by omega) hM.ld (by have := hM.cd; omega) (fun args W => enters_of Tryz.func118 (by kernel_rfl) rfl args W)
  (fun hl9 j x W' hx hb' => checkSensor_any x R.D j R.cd (M.sensors.take j) W' (check_each ((hM.below hb).sensors.below hb') hx).1 (by have := (check_each hM.sensors hx).2; omega)))
 clear hM
 generalize checkC M = G at *
 generalize nameC M.name = e1 at *
 generalize eachC coilC 12 M.coils = e2 at *
 generalize eachC shellC 16 M.shells = e3 at *
 generalize limitsC M.limits = e4 at *
 generalize gridC M.grid = e5 at *
 generalize eachC sensorC 24 M.sensors = e6 at *
 obtain ⟨A, B, C, D, la, ca, lb, cb, lc, cc, ld, cd⟩ := R
 obtain ⟨name, coils, shells, limits, ⟨r, z, nr, nz, step⟩, sensors⟩ := M
 dsimp only at *
 have H5 := Lib.hid (show ∀ W, Calls Tryz.prog 116 #[.agg #[.int .i64 r, .int .i64 z, .int .i64 nr, .int .i64 nz, .int .i64 step]] W (Ret (.int .i64 e5) W) from H5.out)
 show Calls Tryz.prog 71 #[.agg #[.string name, .slice A la ca, .slice B lb cb, .slice C lc cc, .int .i64 r, .int .i64 z, .int .i64 nr, .int .i64 nz, .int .i64 step, .slice D ld cd]] w _
 go_enter Tryz.func71, Tryz.ntmps71
 go_upto_region 1 with fail
 have HS : Hid (∀ w' : World, Reg (w.heap.size + 1) (w.alloc (.cells #[.string name, .slice A la ca, .slice B lb cb, .slice C lc cc, .int .i64 r, .int .i64 z, .int .i64 nr, .int .i64 nz, .int .i64 step, .slice D ld cd] 29)) w' → (Reg (w.heap.size + 1) (w.alloc (.cells #[.string name, .slice A la ca, .slice B lb cb, .slice C lc cc, .int .i64 r, .int .i64 z, .int .i64 nr, .int .i64 nz, .int .i64 step, .slice D ld cd] 29)) w' ∧ w'.cell? ⟨w.heap.size, 0, none⟩ = some (.string name) ∧ w'.cell? ⟨w.heap.size, 1, none⟩ = some (.slice A la ca) ∧ w'.cell? ⟨w.heap.size, 2, none⟩ = some (.slice B lb cb) ∧ w'.cell? ⟨w.heap.size, 3, none⟩ = some (.slice C lc cc) ∧ w'.cell? ⟨w.heap.size, 4, none⟩ = some (.int .i64 r) ∧ w'.cell? ⟨w.heap.size, 5, none⟩ = some (.int .i64 z) ∧ w'.cell? ⟨w.heap.size, 6, none⟩ = some (.int .i64 nr) ∧ w'.cell? ⟨w.heap.size, 7, none⟩ = some (.int .i64 nz) ∧ w'.cell? ⟨w.heap.size, 8, none⟩ = some (.int .i64 step) ∧ w'.cell? ⟨w.heap.size, 9, none⟩ = some (.slice D ld cd))) := (fun w' h => by (have hc := h.cells; have hs := h.some; have hf := h.frozen; refine ⟨h, ?_⟩; (try simp only [World.size_alloc, World.size_setCell, size_drew, size_drewN] at hc hs hf); first | (simp (disch := omega) only [hc, hs, hf, cur_iff]; (try go_simp); done) | (simp (disch := first | omega | (simp; done)) only [hc, hs, hf, cur_iff]; (try go_simp); done) | (simp (maxDischargeDepth := 4) [hc, hs, hf, cur_iff, go_sem]; done) | (go_simp; done) | (simp (maxDischargeDepth := 4) [hc, hs, hf, cur_iff, go_sem]; go_simp))); go_region_held3 (fun w' => Reg (w.heap.size + 1) (w.alloc (.cells #[.string name, .slice A la ca, .slice B lb cb, .slice C lc cc, .int .i64 r, .int .i64 z, .int .i64 nr, .int .i64 nz, .int .i64 step, .slice D ld cd] 29)) w' ∧ w'.cell? ⟨w.heap.size, 0, none⟩ = some (.string name) ∧ w'.cell? ⟨w.heap.size, 1, none⟩ = some (.slice A la ca) ∧ w'.cell? ⟨w.heap.size, 2, none⟩ = some (.slice B lb cb) ∧ w'.cell? ⟨w.heap.size, 3, none⟩ = some (.slice C lc cc) ∧ w'.cell? ⟨w.heap.size, 4, none⟩ = some (.int .i64 r) ∧ w'.cell? ⟨w.heap.size, 5, none⟩ = some (.int .i64 z) ∧ w'.cell? ⟨w.heap.size, 6, none⟩ = some (.int .i64 nr) ∧ w'.cell? ⟨w.heap.size, 7, none⟩ = some (.int .i64 nz) ∧ w'.cell? ⟨w.heap.size, 8, none⟩ = some (.int .i64 step) ∧ w'.cell? ⟨w.heap.size, 9, none⟩ = some (.slice D ld cd)) (exact HS.out _ (by (repeat first | with_reducible exact Reg.refl _ _ | with_reducible exact (‹Reg _ _ _ ∧ _›).1 | with_reducible refine Reg.alloc ?_ _ | with_reducible refine Reg.drew ?_ | (with_reducible apply Reg.call; rotate_left; with_reducible assumption)))) (first | (go_at_call 110; refine (H1.out _).mono ?_; rintro e w1 ⟨rfl, rfl⟩) | (go_at_call 111; refine (H2.out _ (Reg.out (‹Reg _ _ _ ∧ _›).1 (by (repeat first | with_reducible exact Below.refl _ _ | (with_reducible refine Below.alloc ?_ ?_ _; rotate_left; exact (by omega)))) (by omega))).mono ?_; rintro e w1 ⟨rfl, hb⟩; (with_reducible have hk := Nat.lt_of_lt_of_le (size_alloc_lt _ _) hb.size); (try simp only [World.size_alloc, World.size_setCell, size_drew, size_drewN] at hk); obtain ⟨hc, hf⟩ := bcell hb; have hs := hb.size; (try simp only [World.size_alloc, World.size_setCell, size_drew, size_drewN] at hs)) | (go_at_call 113; refine (H3.out _ (Reg.out (‹Reg _ _ _ ∧ _›).1 (by (repeat first | with_reducible exact Below.refl _ _ | (with_reducible refine Below.alloc ?_ ?_ _; rotate_left; exact (by omega)))) (by omega))).mono ?_; rintro e w1 ⟨rfl, hb⟩; (with_reducible have hk := Nat.lt_of_lt_of_le hk hb.size); (try simp only [World.size_alloc, World.size_setCell, size_drew, size_drewN] at hk); obtain ⟨hc, hf⟩ := bcell hb; have hs := hb.size; (try simp only [World.size_alloc, World.size_setCell, size_drew, size_drewN] at hs)) | (go_at_call 115; refine (H4.out _ (Reg.out (‹Reg _ _ _ ∧ _›).1 (by (repeat first | with_reducible exact Below.refl _ _ | (with_reducible refine Below.alloc ?_ ?_ _; rotate_left; exact (by omega)))) (by omega))).mono ?_; rintro e w1 ⟨rfl, hb⟩; (with_reducible have hk := Nat.lt_of_lt_of_le hk hb.size); (try simp only [World.size_alloc, World.size_setCell, size_drew, size_drewN] at hk); obtain ⟨hc, hf⟩ := bcell hb; have hs := hb.size; (try simp only [World.size_alloc, World.size_setCell, size_drew, size_drewN] at hs)) | (go_at_call 116; refine (H5.out _).mono ?_; rintro e w1 ⟨rfl, hb⟩; (with_reducible have hk := Nat.lt_of_lt_of_le hk hb.size); (try simp only [World.size_alloc, World.size_setCell, size_drew, size_drewN] at hk); obtain ⟨hc, hf⟩ := bcell hb; have hs := hb.size; (try simp only [World.size_alloc, World.size_setCell, size_drew, size_drewN] at hs)) | (go_at_call 117; refine (H6.out _ (Reg.out (‹Reg _ _ _ ∧ _›).1 (by (repeat first | with_reducible exact Below.refl _ _ | (with_reducible refine Below.alloc ?_ ?_ _; rotate_left; exact (by omega)))) (by omega))).mono ?_; rintro e w1 ⟨rfl, hb⟩; (with_reducible have hk := Nat.lt_of_lt_of_le hk hb.size); (try simp only [World.size_alloc, World.size_setCell, size_drew, size_drewN] at hk); obtain ⟨hc, hf⟩ := bcell hb; have hs := hb.size; (try simp only [World.size_alloc, World.size_setCell, size_drew, size_drewN] at hs)) | (go_at_call 109; refine (or_any _ 6 6 [e1, e2, e3, e4, e5, e6] _ (isT_new _ [e1, e2, e3, e4, e5, e6] _) (by omega)).mono ?_; rintro e w1 ⟨rfl, hb⟩; (with_reducible have hk := Nat.lt_of_lt_of_le (size_alloc_lt _ _) hb.size); (try simp only [World.size_alloc, World.size_setCell, size_drew, size_drewN] at hk); obtain ⟨hc, hf⟩ := bcell hb; have hs := hb.size; (try simp only [World.size_alloc, World.size_setCell, size_drew, size_drewN] at hs)))
 all_goals go_wp2_with fail
 all_goals go_ret
 all_goals exact ⟨by rw [HE.out]; rfl, (Reg.out (‹Reg _ _ _ ∧ _›).1 (by (repeat first | with_reducible exact Below.refl _ _ | (with_reducible refine Below.alloc ?_ ?_ _; rotate_left; exact (by omega)))) (by omega))⟩
theorem check_any (R : MachR) (M : MachD) (w : World) (hM : IsM w R M) : Calls Tryz.prog 71 #[.agg (machCells R M)] w (Ret (.int .i64 (checkC M)) w) := check_open R M w hM.mo
end
section
open Go.RowKit
theorem flat_get {α : Type} {n : Nat} {enc : α → List Value} (hl : ∀ x, (enc x).length = n) : ∀ (zs : List α) (j : Nat) (x : α), zs[j]? = some x → ∀ (i : Nat) (v : Value), (enc x)[i]? = some v → (zs.flatMap enc)[j * n + i]? = some v
 | [], j, x, h, i, v, hv => by simp at h
 | z :: zs, 0, x, h, i, v, hv => by
  obtain rfl : z = x := by simpa using h
  have hi := (List.getElem?_eq_some_iff.1 hv).1
  simp only [List.flatMap_cons, Nat.zero_mul, Nat.zero_add]
  rw [List.getElem?_append_left hi]; exact hv
 | z :: zs, j + 1, x, h, i, v, hv => by
  simp only [List.flatMap_cons]
  rw [List.getElem?_append_right (by rw [hl, Nat.add_mul]; omega), hl]
  have e : (j + 1) * n + i - n = j * n + i := by rw [Nat.add_mul]; omega
  rw [e]
  exact flat_get hl zs j x (by simpa using h) i v hv
theorem isT_box {α : Type} {n : Nat} {enc : α → List Value} (hl : ∀ x, (enc x).length = n) {w : World} {b : Nat} {cs sp : List Value} {zs : List α} {len : Nat} (h : BoxAt w b (.cells (cs ++ sp))) (hz : zs.flatMap enc = cs) (hn : zs.length = len) : IsT n enc w (some ⟨b, 0, none⟩) len zs := by
 refine ⟨hn, fun _ => ⟨b, 0, rfl, h.lt, fun j x hx i v hv => ?_⟩⟩
 have hc := flat_get hl zs j x hx i v hv
 rw [hz] at hc
 have hlt := (List.getElem?_eq_some_iff.1 hc).1
 rw [Nat.zero_add]
 exact (h.cell _ rfl _ v (by rw [List.getElem?_append_left hlt]; exact hc)).1
theorem isT_box0 {α : Type} {n : Nat} {enc : α → List Value} (hl : ∀ x, (enc x).length = n) {w : World} {b : Nat} {cs : List Value} {zs : List α} {len : Nat} (h : BoxAt w b (.cells cs)) (hz : zs.flatMap enc = cs) (hn : zs.length = len) : IsT n enc w (some ⟨b, 0, none⟩) len zs :=
 isT_box (sp := []) hl (by simpa using h) hz hn
theorem Sta.at {E : Cfg} {U : Snaps} {L : Boxes} {w : World} (h : Sta E U L w) (i : Nat) {b : Nat} {c : Cont} (hi : L[i]? = some (b, c)) : BoxAt w b c := (h.box i b c hi).2
theorem Sta.isT {α : Type} {n : Nat} {enc : α → List Value} {E : Cfg} {U : Snaps} {L : Boxes} {w : World} (h : Sta E U L w) {lo : Nat} {u : World} (hu : (lo, u) ∈ U) {A : Option Addr} {len : Nat} {zs : List α} (hz : IsT n enc u A len zs)
  (hA : ∀ b o, A = some ⟨b, o, none⟩ → lo ≤ b ∨ b < E.w.heap.size ∧ b ∉ E.lent) : IsT n enc w A len zs :=
 ⟨hz.1, fun h0 => by
  obtain ⟨b, o, e, h1, h2⟩ := hz.2 h0
  have hk : w.heap[b]? = u.heap[b]? := h.old hu (by rcases hA b o e with g | g; exact Or.inl ⟨g, h1⟩; exact Or.inr g)
  refine ⟨b, o, e, ?_, fun j x hx i v hv => ?_⟩
  ·have := (h.snap lo u hu).2.2.1; omega
  ·rw [World.cell?_of_block (w := u) (w' := w) (a := ⟨b, _, none⟩) hk]; exact h2 j x hx i v hv⟩
structure NewM (w : World) (R : MachR) : Prop where
 a : ∀ b o, R.A = some ⟨b, o, none⟩ → w.heap.size ≤ b
 b : ∀ b o, R.B = some ⟨b, o, none⟩ → w.heap.size ≤ b
 c : ∀ b o, R.C = some ⟨b, o, none⟩ → w.heap.size ≤ b
 d : ∀ b o, R.D = some ⟨b, o, none⟩ → w.heap.size ≤ b
theorem NewM.mono {w v : World} {R : MachR} (h : NewM v R) (hz : w.heap.size ≤ v.heap.size) : NewM w R :=
 ⟨fun b o e => Nat.le_trans hz (h.a b o e), fun b o e => Nat.le_trans hz (h.b b o e), fun b o e => Nat.le_trans hz (h.c b o e), fun b o e => Nat.le_trans hz (h.d b o e)⟩
theorem Sta.new {n : Nat} {D : List Deferred} {w0 : World} {U : Snaps} {L : Boxes} {w : World} (h : Sta ⟨n, D, w0, []⟩ U L w) (i : Nat) {b : Nat} {c : Cont} (hi : L[i]? = some (b, c)) : ∀ b' o, some (⟨b, 0, none⟩ : Addr) = some ⟨b', o, none⟩ → w0.heap.size ≤ b' := fun b' o e => by
 cases e
 rcases (h.box i b c hi).1 with g | g
 ·exact g
 ·cases g
theorem Sta.isM {E : Cfg} {U : Snaps} {L : Boxes} {w : World} (h : Sta E U L w) {v u : World} (hu : (v.heap.size, u) ∈ U) {R : MachR} {M : MachD} (hM : IsM u R M) (hN : NewM v R) : IsM w R M :=
 ⟨h.isT hu hM.coils fun b o e => Or.inl (hN.a b o e), h.isT hu hM.shells fun b o e => Or.inl (hN.b b o e), h.isT hu hM.limits fun b o e => Or.inl (hN.c b o e), h.isT hu hM.sensors fun b o e => Or.inl (hN.d b o e), hM.la, hM.lb, hM.lc, hM.ld, hM.ca, hM.cb, hM.cc, hM.cd, hM.ka, hM.kb, hM.kc, hM.kd⟩
end
end Go.Proofs.YthggkidiidnaoaaGreatDoor
