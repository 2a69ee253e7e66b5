import Derived.Test.YthggkidiidnaoaaGreatWAA
import Derived.Test.YthggkidiidnaoaaGreatWAJ
import Derived.Test.YthggkidiidnaoaaGreatWAK
import Derived.Deep.RegionHeld3
import Derived.Deep.DeepCutAuto
import Derived.Deep.QuietTactic
import Derived.BigQuiet
import Derived.IntWalk
namespace Go.Proofs.YthggkidiidnaoaaGreat
set_option linter.unusedVariables false
set_option linter.unusedSimpArgs false
section
open Go.RowKit
set_option maxHeartbeats 4000000 in
theorem eachCoil (k : Nat) (chk : CoilD → List CoilD → Int) (most : Int) (A : Option Addr) (len cap : Nat) (zs : List CoilD) (w : World) (hI : IsT 8 CoilD.cells w A len zs) (hl : (len : Int) ≤ most → len ≤ 1000000000000000) (hcap : len ≤ cap) (hmax : cap ≤ 9223372036854775807)
  (hE : ∀ (args : Array Value) (W : World), (callFunc k args).run Tryz.prog W = .ok (.enter k args) W)
  (hk : (len : Int) ≤ most → ∀ (j : Nat) (x : CoilD) (W : World), zs[j]? = some x → Below w.heap.size w W → Calls Tryz.prog k #[CoilD.v x, .slice A j cap] W (Ret (.int .i64 (chk x (zs.take j))) W)) :
  Calls Tryz.prog 70 #[.slice A len cap, .int .i64 most, .func (.func k) #[] #[]] w (Ret (.int .i64 (eachC chk most zs)) w) := by
 have HI := Lib.hid hI
 have hz := hI.1
 by_cases hm : most < len
 ·have HG : Hid (eachC chk most zs = 4) := Lib.hid (by unfold eachC; rw [if_pos om9])
  clear hI hk hz hl
  generalize eachC chk most zs = G at *
  go_enter Tryz.func70, Tryz.ntmps70
  go_wp2_with fail
  go_ret
  exact ⟨by rw [HG.out]; rfl, by (repeat with_reducible exact Below.refl _ _)⟩
 have hl := hl om9
 have HK := Lib.hid (hk om9)
 have HG : Hid (eachC chk most zs = eachGo chk [] zs) := Lib.hid (by unfold eachC; rw [if_neg om9])
 generalize eachC chk most zs = G at *
 clear hI hk hz
 go_enter Tryz.func70, Tryz.ntmps70
 go_wp2_with fail
 go_loopw [7, 8, 9, 16] (fun _ _ _ i wr => ∃ j : Nat, j ≤ len ∧ i = .int .i64 j ∧ Hid (eachGo chk (zs.take j) (zs.drop j) = G) ∧ Below w.heap.size w wr) (fun _ _ _ i _ => len - (intOf i).toNat)
 case atStart => exact ⟨0, Nat.zero_le _, rfl, Lib.hid HG.out.symm, Below.refl _ _⟩
 case round =>
  obtain ⟨j, hj, rfl, hG, hB⟩ := hrel
  by_cases hlt : j < len
  ·obtain ⟨hzl, hcl⟩ := HI.out.below hB
   obtain ⟨b, o, rfl, hb0, hcl⟩ := hcl om9
   obtain ⟨x, hx⟩ : ∃ x, zs[j]? = some x := ⟨_, List.getElem?_eq_getElem om9⟩
   have HS := Lib.hid (eachGo_step chk hx)
   have x0 : wr.cell? ⟨b, o + j * 8, none⟩ = some (.string x.name) := by have h := hcl j x hx 0 _ rfl; simpa using h
   have x1 : wr.cell? ⟨b, o + j * 8 + 1, none⟩ = some (.int .i64 x.r) := by have h := hcl j x hx 1 _ rfl; simpa using h
   have x2 : wr.cell? ⟨b, o + j * 8 + 2, none⟩ = some (.int .i64 x.z) := by have h := hcl j x hx 2 _ rfl; simpa using h
   have x3 : wr.cell? ⟨b, o + j * 8 + 3, none⟩ = some (.int .i64 x.turns) := by have h := hcl j x hx 3 _ rfl; simpa using h
   have x4 : wr.cell? ⟨b, o + j * 8 + 4, none⟩ = some (.int .i64 x.cur) := by have h := hcl j x hx 4 _ rfl; simpa using h
   have x5 : wr.cell? ⟨b, o + j * 8 + 5, none⟩ = some (.int .i64 x.step) := by have h := hcl j x hx 5 _ rfl; simpa using h
   have x6 : wr.cell? ⟨b, o + j * 8 + 6, none⟩ = some (.int .i64 x.heat) := by have h := hcl j x hx 6 _ rfl; simpa using h
   have x7 : wr.cell? ⟨b, o + j * 8 + 7, none⟩ = some (.int .i64 x.cool) := by have h := hcl j x hx 7 _ rfl; simpa using h
   have hsz := hB.size
   have HC := Lib.hid (fun W h => HK.out j x W hx h)
   clear hcl hx hzl
   have HS := Lib.hid (hG.out.symm.trans HS.out)
   obtain ⟨e, he⟩ : ∃ e, chk x (zs.take j) = e := ⟨_, rfl⟩
   rw [he] at HC HS
   clear he hG
   have jc : (j : Int) ≤ cap := by omega
   by_cases h0 : e = 0
   ·have HN : Hid (eachGo chk (zs.take (j + 1)) (zs.drop (j + 1)) = G) := Lib.hid (by rw [HS.out, if_pos h0])
    subst h0
    clear HS
    go_upto_region 6 with fail
    go_cut [9] (fun s9 wx => s9 = .int .i64 0 ∧ Below w.heap.size w wx)
    case first =>
     have HS : Hid (∀ w' : World, Reg (wr.heap.size + 1) ((wr.alloc (.cells #[.string x.name, .int .i64 x.r, .int .i64 x.z, .int .i64 x.turns, .int .i64 x.cur, .int .i64 x.step, .int .i64 x.heat, .int .i64 x.cool] 51))) w' → (Reg (wr.heap.size + 1) ((wr.alloc (.cells #[.string x.name, .int .i64 x.r, .int .i64 x.z, .int .i64 x.turns, .int .i64 x.cur, .int .i64 x.step, .int .i64 x.heat, .int .i64 x.cool] 51))) w' ∧ w'.cell? ⟨wr.heap.size, 0, none⟩ = some (.string x.name) ∧ w'.cell? ⟨wr.heap.size, 1, none⟩ = some (.int .i64 x.r) ∧ w'.cell? ⟨wr.heap.size, 2, none⟩ = some (.int .i64 x.z) ∧ w'.cell? ⟨wr.heap.size, 3, none⟩ = some (.int .i64 x.turns) ∧ w'.cell? ⟨wr.heap.size, 4, none⟩ = some (.int .i64 x.cur) ∧ w'.cell? ⟨wr.heap.size, 5, none⟩ = some (.int .i64 x.step) ∧ w'.cell? ⟨wr.heap.size, 6, none⟩ = some (.int .i64 x.heat) ∧ w'.cell? ⟨wr.heap.size, 7, none⟩ = some (.int .i64 x.cool))) := (fun w' h => by (have hc := h.cells; have hs := h.some; have hf := h.frozen; refine ⟨h, ?_⟩; (try simp only [World.size_alloc, World.size_setCell, size_drew, size_drewN] at hc hs hf); first | (simp (disch := omega) only [hc, hs, hf, cur_iff]; (try go_simp); done) | (simp (disch := first | omega | (simp; done)) only [hc, hs, hf, cur_iff]; (try go_simp); done) | (simp (maxDischargeDepth := 4) [hc, hs, hf, cur_iff, go_sem]; done) | (go_simp; done) | (simp (maxDischargeDepth := 4) [hc, hs, hf, cur_iff, go_sem]; go_simp))); go_region_held3 (fun w' => Reg (wr.heap.size + 1) ((wr.alloc (.cells #[.string x.name, .int .i64 x.r, .int .i64 x.z, .int .i64 x.turns, .int .i64 x.cur, .int .i64 x.step, .int .i64 x.heat, .int .i64 x.cool] 51))) w' ∧ w'.cell? ⟨wr.heap.size, 0, none⟩ = some (.string x.name) ∧ w'.cell? ⟨wr.heap.size, 1, none⟩ = some (.int .i64 x.r) ∧ w'.cell? ⟨wr.heap.size, 2, none⟩ = some (.int .i64 x.z) ∧ w'.cell? ⟨wr.heap.size, 3, none⟩ = some (.int .i64 x.turns) ∧ w'.cell? ⟨wr.heap.size, 4, none⟩ = some (.int .i64 x.cur) ∧ w'.cell? ⟨wr.heap.size, 5, none⟩ = some (.int .i64 x.step) ∧ w'.cell? ⟨wr.heap.size, 6, none⟩ = some (.int .i64 x.heat) ∧ w'.cell? ⟨wr.heap.size, 7, none⟩ = some (.int .i64 x.cool)) (exact HS.out _ (by (repeat first | with_reducible exact Reg.refl _ _ | with_reducible exact (‹Reg _ _ _ ∧ _›).1 | with_reducible refine Reg.drew ?_ | (with_reducible apply Reg.call; rotate_left; with_reducible assumption)))) (((with_reducible show Calls _ k _ _ _); refine (HC.out _ (Reg.out (‹Reg _ _ _ ∧ _›).1 (by (repeat first | with_reducible assumption | (with_reducible refine Below.alloc ?_ ?_ _; rotate_left; exact om9))) om9)).mono ?_; rintro e w1 ⟨rfl, hb⟩; (with_reducible have hk := Nat.lt_of_lt_of_le (size_alloc_lt _ _) hb.size); (try simp only [World.size_alloc, World.size_setCell, size_drew, size_drewN] at hk); obtain ⟨hc, hf⟩ := bcell hb; have hs := hb.size; (try simp only [World.size_alloc, World.size_setCell, size_drew, size_drewN] at hs)))
     all_goals go_wp2_with fail
     all_goals go_meet
     all_goals exact ⟨rfl, (Reg.out (‹Reg _ _ _ ∧ _›).1 (by (repeat first | with_reducible assumption | (with_reducible refine Below.alloc ?_ ?_ _; rotate_left; exact om9))) om9)⟩
    case rest =>
     obtain ⟨rfl, hB1⟩ := hcut
     go_wp2_with fail
     go_roundw
     case rel => exact ⟨j + 1, by omega, by go_num, HN, hB1⟩
     case measure => simp [intOf]; omega
   ·have HN : Hid (e = G) := Lib.hid (by rw [HS.out, if_neg h0])
    have hne : (e != 0) = true := by rw [bne_iff_ne]; exact h0
    clear HS
    go_upto_region 6 with fail
    go_cut [9] (fun s9 wx => s9 = .int .i64 e ∧ Below w.heap.size w wx)
    case first =>
     have HS : Hid (∀ w' : World, Reg (wr.heap.size + 1) ((wr.alloc (.cells #[.string x.name, .int .i64 x.r, .int .i64 x.z, .int .i64 x.turns, .int .i64 x.cur, .int .i64 x.step, .int .i64 x.heat, .int .i64 x.cool] 51))) w' → (Reg (wr.heap.size + 1) ((wr.alloc (.cells #[.string x.name, .int .i64 x.r, .int .i64 x.z, .int .i64 x.turns, .int .i64 x.cur, .int .i64 x.step, .int .i64 x.heat, .int .i64 x.cool] 51))) w' ∧ w'.cell? ⟨wr.heap.size, 0, none⟩ = some (.string x.name) ∧ w'.cell? ⟨wr.heap.size, 1, none⟩ = some (.int .i64 x.r) ∧ w'.cell? ⟨wr.heap.size, 2, none⟩ = some (.int .i64 x.z) ∧ w'.cell? ⟨wr.heap.size, 3, none⟩ = some (.int .i64 x.turns) ∧ w'.cell? ⟨wr.heap.size, 4, none⟩ = some (.int .i64 x.cur) ∧ w'.cell? ⟨wr.heap.size, 5, none⟩ = some (.int .i64 x.step) ∧ w'.cell? ⟨wr.heap.size, 6, none⟩ = some (.int .i64 x.heat) ∧ w'.cell? ⟨wr.heap.size, 7, none⟩ = some (.int .i64 x.cool))) := (fun w' h => by (have hc := h.cells; have hs := h.some; have hf := h.frozen; refine ⟨h, ?_⟩; (try simp only [World.size_alloc, World.size_setCell, size_drew, size_drewN] at hc hs hf); first | (simp (disch := omega) only [hc, hs, hf, cur_iff]; (try go_simp); done) | (simp (disch := first | omega | (simp; done)) only [hc, hs, hf, cur_iff]; (try go_simp); done) | (simp (maxDischargeDepth := 4) [hc, hs, hf, cur_iff, go_sem]; done) | (go_simp; done) | (simp (maxDischargeDepth := 4) [hc, hs, hf, cur_iff, go_sem]; go_simp))); go_region_held3 (fun w' => Reg (wr.heap.size + 1) ((wr.alloc (.cells #[.string x.name, .int .i64 x.r, .int .i64 x.z, .int .i64 x.turns, .int .i64 x.cur, .int .i64 x.step, .int .i64 x.heat, .int .i64 x.cool] 51))) w' ∧ w'.cell? ⟨wr.heap.size, 0, none⟩ = some (.string x.name) ∧ w'.cell? ⟨wr.heap.size, 1, none⟩ = some (.int .i64 x.r) ∧ w'.cell? ⟨wr.heap.size, 2, none⟩ = some (.int .i64 x.z) ∧ w'.cell? ⟨wr.heap.size, 3, none⟩ = some (.int .i64 x.turns) ∧ w'.cell? ⟨wr.heap.size, 4, none⟩ = some (.int .i64 x.cur) ∧ w'.cell? ⟨wr.heap.size, 5, none⟩ = some (.int .i64 x.step) ∧ w'.cell? ⟨wr.heap.size, 6, none⟩ = some (.int .i64 x.heat) ∧ w'.cell? ⟨wr.heap.size, 7, none⟩ = some (.int .i64 x.cool)) (exact HS.out _ (by (repeat first | with_reducible exact Reg.refl _ _ | with_reducible exact (‹Reg _ _ _ ∧ _›).1 | with_reducible refine Reg.drew ?_ | (with_reducible apply Reg.call; rotate_left; with_reducible assumption)))) (((with_reducible show Calls _ k _ _ _); refine (HC.out _ (Reg.out (‹Reg _ _ _ ∧ _›).1 (by (repeat first | with_reducible assumption | (with_reducible refine Below.alloc ?_ ?_ _; rotate_left; exact om9))) om9)).mono ?_; rintro e w1 ⟨rfl, hb⟩; (with_reducible have hk := Nat.lt_of_lt_of_le (size_alloc_lt _ _) hb.size); (try simp only [World.size_alloc, World.size_setCell, size_drew, size_drewN] at hk); obtain ⟨hc, hf⟩ := bcell hb; have hs := hb.size; (try simp only [World.size_alloc, World.size_setCell, size_drew, size_drewN] at hs)))
     all_goals go_wp2_with fail
     all_goals go_meet
     all_goals exact ⟨rfl, (Reg.out (‹Reg _ _ _ ∧ _›).1 (by (repeat first | with_reducible assumption | (with_reducible refine Below.alloc ?_ ?_ _; rotate_left; exact om9))) om9)⟩
    case rest =>
     obtain ⟨rfl, hB1⟩ := hcut
     go_wp2_with fail
     go_ret
     exact ⟨by rw [← HN.out]; rfl, hB1⟩
  ·have HN : Hid ((0 : Int) = G) := Lib.hid (by rw [← hG.out, List.drop_of_length_le (by rw [HI.out.1]; omega)]; rfl)
   go_wp2
   go_ret
   exact ⟨by rw [← HN.out]; rfl, hB⟩
end
section
open Go.RowKit
set_option maxHeartbeats 4000000 in
theorem eachShell (k : Nat) (chk : ShellD → List ShellD → Int) (most : Int) (A : Option Addr) (len cap : Nat) (zs : List ShellD) (w : World) (hI : IsT 4 ShellD.cells w A len zs) (hl : (len : Int) ≤ most → len ≤ 1000000000000000) (hcap : len ≤ cap) (hmax : cap ≤ 9223372036854775807)
  (hE : ∀ (args : Array Value) (W : World), (callFunc k args).run Tryz.prog W = .ok (.enter k args) W)
  (hk : (len : Int) ≤ most → ∀ (j : Nat) (x : ShellD) (W : World), zs[j]? = some x → Below w.heap.size w W → Calls Tryz.prog k #[ShellD.v x, .slice A j cap] W (Ret (.int .i64 (chk x (zs.take j))) W)) :
  Calls Tryz.prog 72 #[.slice A len cap, .int .i64 most, .func (.func k) #[] #[]] w (Ret (.int .i64 (eachC chk most zs)) w) := by
 have HI := Lib.hid hI
 have hz := hI.1
 by_cases hm : most < len
 ·have HG : Hid (eachC chk most zs = 4) := Lib.hid (by unfold eachC; rw [if_pos om9])
  clear hI hk hz hl
  generalize eachC chk most zs = G at *
  go_enter Tryz.func72, Tryz.ntmps72
  go_wp2_with fail
  go_ret
  exact ⟨by rw [HG.out]; rfl, by (repeat with_reducible exact Below.refl _ _)⟩
 have hl := hl om9
 have HK := Lib.hid (hk om9)
 have HG : Hid (eachC chk most zs = eachGo chk [] zs) := Lib.hid (by unfold eachC; rw [if_neg om9])
 generalize eachC chk most zs = G at *
 clear hI hk hz
 go_enter Tryz.func72, Tryz.ntmps72
 go_wp2_with fail
 go_loopw [7, 8, 9, 16] (fun _ _ _ i wr => ∃ j : Nat, j ≤ len ∧ i = .int .i64 j ∧ Hid (eachGo chk (zs.take j) (zs.drop j) = G) ∧ Below w.heap.size w wr) (fun _ _ _ i _ => len - (intOf i).toNat)
 case atStart => exact ⟨0, Nat.zero_le _, rfl, Lib.hid HG.out.symm, Below.refl _ _⟩
 case round =>
  obtain ⟨j, hj, rfl, hG, hB⟩ := hrel
  by_cases hlt : j < len
  ·obtain ⟨hzl, hcl⟩ := HI.out.below hB
   obtain ⟨b, o, rfl, hb0, hcl⟩ := hcl om9
   obtain ⟨x, hx⟩ : ∃ x, zs[j]? = some x := ⟨_, List.getElem?_eq_getElem om9⟩
   have HS := Lib.hid (eachGo_step chk hx)
   have x0 : wr.cell? ⟨b, o + j * 4, none⟩ = some (.int .i64 x.r) := by have h := hcl j x hx 0 _ rfl; simpa using h
   have x1 : wr.cell? ⟨b, o + j * 4 + 1, none⟩ = some (.int .i64 x.z) := by have h := hcl j x hx 1 _ rfl; simpa using h
   have x2 : wr.cell? ⟨b, o + j * 4 + 2, none⟩ = some (.int .i64 x.self) := by have h := hcl j x hx 2 _ rfl; simpa using h
   have x3 : wr.cell? ⟨b, o + j * 4 + 3, none⟩ = some (.int .i64 x.loss) := by have h := hcl j x hx 3 _ rfl; simpa using h
   have hsz := hB.size
   have HC := Lib.hid (fun W h => HK.out j x W hx h)
   clear hcl hx hzl
   have HS := Lib.hid (hG.out.symm.trans HS.out)
   obtain ⟨e, he⟩ : ∃ e, chk x (zs.take j) = e := ⟨_, rfl⟩
   rw [he] at HC HS
   clear he hG
   have jc : (j : Int) ≤ cap := by omega
   by_cases h0 : e = 0
   ·have HN : Hid (eachGo chk (zs.take (j + 1)) (zs.drop (j + 1)) = G) := Lib.hid (by rw [HS.out, if_pos h0])
    subst h0
    clear HS
    go_upto_region 6 with fail
    go_cut [9] (fun s9 wx => s9 = .int .i64 0 ∧ Below w.heap.size w wx)
    case first =>
     have HS : Hid (∀ w' : World, Reg (wr.heap.size + 1) ((wr.alloc (.cells #[.int .i64 x.r, .int .i64 x.z, .int .i64 x.self, .int .i64 x.loss] 142))) w' → (Reg (wr.heap.size + 1) ((wr.alloc (.cells #[.int .i64 x.r, .int .i64 x.z, .int .i64 x.self, .int .i64 x.loss] 142))) w' ∧ w'.cell? ⟨wr.heap.size, 0, none⟩ = some (.int .i64 x.r) ∧ w'.cell? ⟨wr.heap.size, 1, none⟩ = some (.int .i64 x.z) ∧ w'.cell? ⟨wr.heap.size, 2, none⟩ = some (.int .i64 x.self) ∧ w'.cell? ⟨wr.heap.size, 3, none⟩ = some (.int .i64 x.loss))) := (fun w' h => by (have hc := h.cells; have hs := h.some; have hf := h.frozen; refine ⟨h, ?_⟩; (try simp only [World.size_alloc, World.size_setCell, size_drew, size_drewN] at hc hs hf); first | (simp (disch := omega) only [hc, hs, hf, cur_iff]; (try go_simp); done) | (simp (disch := first | omega | (simp; done)) only [hc, hs, hf, cur_iff]; (try go_simp); done) | (simp (maxDischargeDepth := 4) [hc, hs, hf, cur_iff, go_sem]; done) | (go_simp; done) | (simp (maxDischargeDepth := 4) [hc, hs, hf, cur_iff, go_sem]; go_simp))); go_region_held3 (fun w' => Reg (wr.heap.size + 1) ((wr.alloc (.cells #[.int .i64 x.r, .int .i64 x.z, .int .i64 x.self, .int .i64 x.loss] 142))) w' ∧ w'.cell? ⟨wr.heap.size, 0, none⟩ = some (.int .i64 x.r) ∧ w'.cell? ⟨wr.heap.size, 1, none⟩ = some (.int .i64 x.z) ∧ w'.cell? ⟨wr.heap.size, 2, none⟩ = some (.int .i64 x.self) ∧ w'.cell? ⟨wr.heap.size, 3, none⟩ = some (.int .i64 x.loss)) (exact HS.out _ (by (repeat first | with_reducible exact Reg.refl _ _ | with_reducible exact (‹Reg _ _ _ ∧ _›).1 | with_reducible refine Reg.drew ?_ | (with_reducible apply Reg.call; rotate_left; with_reducible assumption)))) (((with_reducible show Calls _ k _ _ _); refine (HC.out _ (Reg.out (‹Reg _ _ _ ∧ _›).1 (by (repeat first | with_reducible assumption | (with_reducible refine Below.alloc ?_ ?_ _; rotate_left; exact om9))) om9)).mono ?_; rintro e w1 ⟨rfl, hb⟩; (with_reducible have hk := Nat.lt_of_lt_of_le (size_alloc_lt _ _) hb.size); (try simp only [World.size_alloc, World.size_setCell, size_drew, size_drewN] at hk); obtain ⟨hc, hf⟩ := bcell hb; have hs := hb.size; (try simp only [World.size_alloc, World.size_setCell, size_drew, size_drewN] at hs)))
     all_goals go_wp2_with fail
     all_goals go_meet
     all_goals exact ⟨rfl, (Reg.out (‹Reg _ _ _ ∧ _›).1 (by (repeat first | with_reducible assumption | (with_reducible refine Below.alloc ?_ ?_ _; rotate_left; exact om9))) om9)⟩
    case rest =>
     obtain ⟨rfl, hB1⟩ := hcut
     go_wp2_with fail
     go_roundw
     case rel => exact ⟨j + 1, by omega, by go_num, HN, hB1⟩
     case measure => simp [intOf]; omega
   ·have HN : Hid (e = G) := Lib.hid (by rw [HS.out, if_neg h0])
    have hne : (e != 0) = true := by rw [bne_iff_ne]; exact h0
    clear HS
    go_upto_region 6 with fail
    go_cut [9] (fun s9 wx => s9 = .int .i64 e ∧ Below w.heap.size w wx)
    case first =>
     have HS : Hid (∀ w' : World, Reg (wr.heap.size + 1) ((wr.alloc (.cells #[.int .i64 x.r, .int .i64 x.z, .int .i64 x.self, .int .i64 x.loss] 142))) w' → (Reg (wr.heap.size + 1) ((wr.alloc (.cells #[.int .i64 x.r, .int .i64 x.z, .int .i64 x.self, .int .i64 x.loss] 142))) w' ∧ w'.cell? ⟨wr.heap.size, 0, none⟩ = some (.int .i64 x.r) ∧ w'.cell? ⟨wr.heap.size, 1, none⟩ = some (.int .i64 x.z) ∧ w'.cell? ⟨wr.heap.size, 2, none⟩ = some (.int .i64 x.self) ∧ w'.cell? ⟨wr.heap.size, 3, none⟩ = some (.int .i64 x.loss))) := (fun w' h => by (have hc := h.cells; have hs := h.some; have hf := h.frozen; refine ⟨h, ?_⟩; (try simp only [World.size_alloc, World.size_setCell, size_drew, size_drewN] at hc hs hf); first | (simp (disch := omega) only [hc, hs, hf, cur_iff]; (try go_simp); done) | (simp (disch := first | omega | (simp; done)) only [hc, hs, hf, cur_iff]; (try go_simp); done) | (simp (maxDischargeDepth := 4) [hc, hs, hf, cur_iff, go_sem]; done) | (go_simp; done) | (simp (maxDischargeDepth := 4) [hc, hs, hf, cur_iff, go_sem]; go_simp))); go_region_held3 (fun w' => Reg (wr.heap.size + 1) ((wr.alloc (.cells #[.int .i64 x.r, .int .i64 x.z, .int .i64 x.self, .int .i64 x.loss] 142))) w' ∧ w'.cell? ⟨wr.heap.size, 0, none⟩ = some (.int .i64 x.r) ∧ w'.cell? ⟨wr.heap.size, 1, none⟩ = some (.int .i64 x.z) ∧ w'.cell? ⟨wr.heap.size, 2, none⟩ = some (.int .i64 x.self) ∧ w'.cell? ⟨wr.heap.size, 3, none⟩ = some (.int .i64 x.loss)) (exact HS.out _ (by (repeat first | with_reducible exact Reg.refl _ _ | with_reducible exact (‹Reg _ _ _ ∧ _›).1 | with_reducible refine Reg.drew ?_ | (with_reducible apply Reg.call; rotate_left; with_reducible assumption)))) (((with_reducible show Calls _ k _ _ _); refine (HC.out _ (Reg.out (‹Reg _ _ _ ∧ _›).1 (by (repeat first | with_reducible assumption | (with_reducible refine Below.alloc ?_ ?_ _; rotate_left; exact om9))) om9)).mono ?_; rintro e w1 ⟨rfl, hb⟩; (with_reducible have hk := Nat.lt_of_lt_of_le (size_alloc_lt _ _) hb.size); (try simp only [World.size_alloc, World.size_setCell, size_drew, size_drewN] at hk); obtain ⟨hc, hf⟩ := bcell hb; have hs := hb.size; (try simp only [World.size_alloc, World.size_setCell, size_drew, size_drewN] at hs)))
     all_goals go_wp2_with fail
     all_goals go_meet
     all_goals exact ⟨rfl, (Reg.out (‹Reg _ _ _ ∧ _›).1 (by (repeat first | with_reducible assumption | (with_reducible refine Below.alloc ?_ ?_ _; rotate_left; exact om9))) om9)⟩
    case rest =>
     obtain ⟨rfl, hB1⟩ := hcut
     go_wp2_with fail
     go_ret
     exact ⟨by rw [← HN.out]; rfl, hB1⟩
  ·have HN : Hid ((0 : Int) = G) := Lib.hid (by rw [← hG.out, List.drop_of_length_le (by rw [HI.out.1]; omega)]; rfl)
   go_wp2
   go_ret
   exact ⟨by rw [← HN.out]; rfl, hB⟩
end
section
open Go.RowKit
set_option maxHeartbeats 4000000 in
theorem eachSensor (k : Nat) (chk : SensorD → List SensorD → Int) (most : Int) (A : Option Addr) (len cap : Nat) (zs : List SensorD) (w : World) (hI : IsT 5 SensorD.cells w A len zs) (hl : (len : Int) ≤ most → len ≤ 1000000000000000) (hcap : len ≤ cap) (hmax : cap ≤ 9223372036854775807)
  (hE : ∀ (args : Array Value) (W : World), (callFunc k args).run Tryz.prog W = .ok (.enter k args) W)
  (hk : (len : Int) ≤ most → ∀ (j : Nat) (x : SensorD) (W : World), zs[j]? = some x → Below w.heap.size w W → Calls Tryz.prog k #[SensorD.v x, .slice A j cap] W (Ret (.int .i64 (chk x (zs.take j))) W)) :
  Calls Tryz.prog 76 #[.slice A len cap, .int .i64 most, .func (.func k) #[] #[]] w (Ret (.int .i64 (eachC chk most zs)) w) := by
 have HI := Lib.hid hI
 have hz := hI.1
 by_cases hm : most < len
 ·have HG : Hid (eachC chk most zs = 4) := Lib.hid (by unfold eachC; rw [if_pos om9])
  clear hI hk hz hl
  generalize eachC chk most zs = G at *
  go_enter Tryz.func76, Tryz.ntmps76
  go_wp2_with fail
  go_ret
  exact ⟨by rw [HG.out]; rfl, by (repeat with_reducible exact Below.refl _ _)⟩
 have hl := hl om9
 have HK := Lib.hid (hk om9)
 have HG : Hid (eachC chk most zs = eachGo chk [] zs) := Lib.hid (by unfold eachC; rw [if_neg om9])
 generalize eachC chk most zs = G at *
 clear hI hk hz
 go_enter Tryz.func76, Tryz.ntmps76
 go_wp2_with fail
 go_loopw [7, 8, 9, 16] (fun _ _ _ i wr => ∃ j : Nat, j ≤ len ∧ i = .int .i64 j ∧ Hid (eachGo chk (zs.take j) (zs.drop j) = G) ∧ Below w.heap.size w wr) (fun _ _ _ i _ => len - (intOf i).toNat)
 case atStart => exact ⟨0, Nat.zero_le _, rfl, Lib.hid HG.out.symm, Below.refl _ _⟩
 case round =>
  obtain ⟨j, hj, rfl, hG, hB⟩ := hrel
  by_cases hlt : j < len
  ·obtain ⟨hzl, hcl⟩ := HI.out.below hB
   obtain ⟨b, o, rfl, hb0, hcl⟩ := hcl om9
   obtain ⟨x, hx⟩ : ∃ x, zs[j]? = some x := ⟨_, List.getElem?_eq_getElem om9⟩
   have HS := Lib.hid (eachGo_step chk hx)
   have x0 : wr.cell? ⟨b, o + j * 5, none⟩ = some (.string x.name) := by have h := hcl j x hx 0 _ rfl; simpa using h
   have x1 : wr.cell? ⟨b, o + j * 5 + 1, none⟩ = some (.int .i64 x.kind) := by have h := hcl j x hx 1 _ rfl; simpa using h
   have x2 : wr.cell? ⟨b, o + j * 5 + 2, none⟩ = some (.int .i64 x.r) := by have h := hcl j x hx 2 _ rfl; simpa using h
   have x3 : wr.cell? ⟨b, o + j * 5 + 3, none⟩ = some (.int .i64 x.z) := by have h := hcl j x hx 3 _ rfl; simpa using h
   have x4 : wr.cell? ⟨b, o + j * 5 + 4, none⟩ = some (.int .i64 x.error) := by have h := hcl j x hx 4 _ rfl; simpa using h
   have hsz := hB.size
   have HC := Lib.hid (fun W h => HK.out j x W hx h)
   clear hcl hx hzl
   have HS := Lib.hid (hG.out.symm.trans HS.out)
   obtain ⟨e, he⟩ : ∃ e, chk x (zs.take j) = e := ⟨_, rfl⟩
   rw [he] at HC HS
   clear he hG
   have jc : (j : Int) ≤ cap := by omega
   by_cases h0 : e = 0
   ·have HN : Hid (eachGo chk (zs.take (j + 1)) (zs.drop (j + 1)) = G) := Lib.hid (by rw [HS.out, if_pos h0])
    subst h0
    clear HS
    go_upto_region 6 with fail
    go_cut [9] (fun s9 wx => s9 = .int .i64 0 ∧ Below w.heap.size w wx)
    case first =>
     have HS : Hid (∀ w' : World, Reg (wr.heap.size + 1) ((wr.alloc (.cells #[.string x.name, .int .i64 x.kind, .int .i64 x.r, .int .i64 x.z, .int .i64 x.error] 148))) w' → (Reg (wr.heap.size + 1) ((wr.alloc (.cells #[.string x.name, .int .i64 x.kind, .int .i64 x.r, .int .i64 x.z, .int .i64 x.error] 148))) w' ∧ w'.cell? ⟨wr.heap.size, 0, none⟩ = some (.string x.name) ∧ w'.cell? ⟨wr.heap.size, 1, none⟩ = some (.int .i64 x.kind) ∧ w'.cell? ⟨wr.heap.size, 2, none⟩ = some (.int .i64 x.r) ∧ w'.cell? ⟨wr.heap.size, 3, none⟩ = some (.int .i64 x.z) ∧ w'.cell? ⟨wr.heap.size, 4, none⟩ = some (.int .i64 x.error))) := (fun w' h => by (have hc := h.cells; have hs := h.some; have hf := h.frozen; refine ⟨h, ?_⟩; (try simp only [World.size_alloc, World.size_setCell, size_drew, size_drewN] at hc hs hf); first | (simp (disch := omega) only [hc, hs, hf, cur_iff]; (try go_simp); done) | (simp (disch := first | omega | (simp; done)) only [hc, hs, hf, cur_iff]; (try go_simp); done) | (simp (maxDischargeDepth := 4) [hc, hs, hf, cur_iff, go_sem]; done) | (go_simp; done) | (simp (maxDischargeDepth := 4) [hc, hs, hf, cur_iff, go_sem]; go_simp))); go_region_held3 (fun w' => Reg (wr.heap.size + 1) ((wr.alloc (.cells #[.string x.name, .int .i64 x.kind, .int .i64 x.r, .int .i64 x.z, .int .i64 x.error] 148))) w' ∧ w'.cell? ⟨wr.heap.size, 0, none⟩ = some (.string x.name) ∧ w'.cell? ⟨wr.heap.size, 1, none⟩ = some (.int .i64 x.kind) ∧ w'.cell? ⟨wr.heap.size, 2, none⟩ = some (.int .i64 x.r) ∧ w'.cell? ⟨wr.heap.size, 3, none⟩ = some (.int .i64 x.z) ∧ w'.cell? ⟨wr.heap.size, 4, none⟩ = some (.int .i64 x.error)) (exact HS.out _ (by (repeat first | with_reducible exact Reg.refl _ _ | with_reducible exact (‹Reg _ _ _ ∧ _›).1 | with_reducible refine Reg.drew ?_ | (with_reducible apply Reg.call; rotate_left; with_reducible assumption)))) (((with_reducible show Calls _ k _ _ _); refine (HC.out _ (Reg.out (‹Reg _ _ _ ∧ _›).1 (by (repeat first | with_reducible assumption | (with_reducible refine Below.alloc ?_ ?_ _; rotate_left; exact om9))) om9)).mono ?_; rintro e w1 ⟨rfl, hb⟩; (with_reducible have hk := Nat.lt_of_lt_of_le (size_alloc_lt _ _) hb.size); (try simp only [World.size_alloc, World.size_setCell, size_drew, size_drewN] at hk); obtain ⟨hc, hf⟩ := bcell hb; have hs := hb.size; (try simp only [World.size_alloc, World.size_setCell, size_drew, size_drewN] at hs)))
     all_goals go_wp2_with fail
     all_goals go_meet
     all_goals exact ⟨rfl, (Reg.out (‹Reg _ _ _ ∧ _›).1 (by (repeat first | with_reducible assumption | (with_reducible refine Below.alloc ?_ ?_ _; rotate_left; exact om9))) om9)⟩
    case rest =>
     obtain ⟨rfl, hB1⟩ := hcut
     go_wp2_with fail
     go_roundw
     case rel => exact ⟨j + 1, by omega, by go_num, HN, hB1⟩
     case measure => simp [intOf]; omega
   ·have HN : Hid (e = G) := Lib.hid (by rw [HS.out, if_neg h0])
    have hne : (e != 0) = true := by rw [bne_iff_ne]; exact h0
    clear HS
    go_upto_region 6 with fail
    go_cut [9] (fun s9 wx => s9 = .int .i64 e ∧ Below w.heap.size w wx)
    case first =>
     have HS : Hid (∀ w' : World, Reg (wr.heap.size + 1) ((wr.alloc (.cells #[.string x.name, .int .i64 x.kind, .int .i64 x.r, .int .i64 x.z, .int .i64 x.error] 148))) w' → (Reg (wr.heap.size + 1) ((wr.alloc (.cells #[.string x.name, .int .i64 x.kind, .int .i64 x.r, .int .i64 x.z, .int .i64 x.error] 148))) w' ∧ w'.cell? ⟨wr.heap.size, 0, none⟩ = some (.string x.name) ∧ w'.cell? ⟨wr.heap.size, 1, none⟩ = some (.int .i64 x.kind) ∧ w'.cell? ⟨wr.heap.size, 2, none⟩ = some (.int .i64 x.r) ∧ w'.cell? ⟨wr.heap.size, 3, none⟩ = some (.int .i64 x.z) ∧ w'.cell? ⟨wr.heap.size, 4, none⟩ = some (.int .i64 x.error))) := (fun w' h => by (have hc := h.cells; have hs := h.some; have hf := h.frozen; refine ⟨h, ?_⟩; (try simp only [World.size_alloc, World.size_setCell, size_drew, size_drewN] at hc hs hf); first | (simp (disch := omega) only [hc, hs, hf, cur_iff]; (try go_simp); done) | (simp (disch := first | omega | (simp; done)) only [hc, hs, hf, cur_iff]; (try go_simp); done) | (simp (maxDischargeDepth := 4) [hc, hs, hf, cur_iff, go_sem]; done) | (go_simp; done) | (simp (maxDischargeDepth := 4) [hc, hs, hf, cur_iff, go_sem]; go_simp))); go_region_held3 (fun w' => Reg (wr.heap.size + 1) ((wr.alloc (.cells #[.string x.name, .int .i64 x.kind, .int .i64 x.r, .int .i64 x.z, .int .i64 x.error] 148))) w' ∧ w'.cell? ⟨wr.heap.size, 0, none⟩ = some (.string x.name) ∧ w'.cell? ⟨wr.heap.size, 1, none⟩ = some (.int .i64 x.kind) ∧ w'.cell? ⟨wr.heap.size, 2, none⟩ = some (.int .i64 x.r) ∧ w'.cell? ⟨wr.heap.size, 3, none⟩ = some (.int .i64 x.z) ∧ w'.cell? ⟨wr.heap.size, 4, none⟩ = some (.int .i64 x.error)) (exact HS.out _ (by (repeat first | with_reducible exact Reg.refl _ _ | with_reducible exact (‹Reg _ _ _ ∧ _›).1 | with_reducible refine Reg.drew ?_ | (with_reducible apply Reg.call; rotate_left; with_reducible assumption)))) (((with_reducible show Calls _ k _ _ _); refine (HC.out _ (Reg.out (‹Reg _ _ _ ∧ _›).1 (by (repeat first | with_reducible assumption | (with_reducible refine Below.alloc ?_ ?_ _; rotate_left; exact om9))) om9)).mono ?_; rintro e w1 ⟨rfl, hb⟩; (with_reducible have hk := Nat.lt_of_lt_of_le (size_alloc_lt _ _) hb.size); (try simp only [World.size_alloc, World.size_setCell, size_drew, size_drewN] at hk); obtain ⟨hc, hf⟩ := bcell hb; have hs := hb.size; (try simp only [World.size_alloc, World.size_setCell, size_drew, size_drewN] at hs)))
     all_goals go_wp2_with fail
     all_goals go_meet
     all_goals exact ⟨rfl, (Reg.out (‹Reg _ _ _ ∧ _›).1 (by (repeat first | with_reducible assumption | (with_reducible refine Below.alloc ?_ ?_ _; rotate_left; exact om9))) om9)⟩
    case rest =>
     obtain ⟨rfl, hB1⟩ := hcut
     go_wp2_with fail
     go_ret
     exact ⟨by rw [← HN.out]; rfl, hB1⟩
  ·have HN : Hid ((0 : Int) = G) := Lib.hid (by rw [← hG.out, List.drop_of_length_le (by rw [HI.out.1]; omega)]; rfl)
   go_wp2
   go_ret
   exact ⟨by rw [← HN.out]; rfl, hB⟩
end
section
open Go.RowKit Go.Shelf
structure MachR where
 (A B C D : Option Addr) (la ca lb cb lc cc ld cd : Nat)
def machCells (R : MachR) (M : MachD) : Array Value :=
 #[.string M.name, .slice R.A R.la R.ca, .slice R.B R.lb R.cb, .slice R.C R.lc R.cc, .int .i64 M.grid.r, .int .i64 M.grid.z, .int .i64 M.grid.nr, .int .i64 M.grid.nz, .int .i64 M.grid.step, .slice R.D R.ld R.cd]
structure IsM (w : World) (R : MachR) (M : MachD) : Prop where
 coils : IsT 8 CoilD.cells w R.A R.la M.coils
 shells : IsT 4 ShellD.cells w R.B R.lb M.shells
 limits : IsT 2 PointD.cells w R.C R.lc M.limits
 sensors : IsT 5 SensorD.cells w R.D R.ld M.sensors
 la : R.la ≤ R.ca
 lb : R.lb ≤ R.cb
 lc : R.lc ≤ R.cc
 ld : R.ld ≤ R.cd
 ca : R.ca ≤ 9223372036854775807
 cb : R.cb ≤ 9223372036854775807
 cc : R.cc ≤ 9223372036854775807
 cd : R.cd ≤ 9223372036854775807
 ka : R.la ≤ 1000000000000000
 kb : R.lb ≤ 1000000000000000
 kc : R.lc ≤ 1000000000000000
 kd : R.ld ≤ 1000000000000000
structure IsMo (w : World) (R : MachR) (M : MachD) : Prop where
 coils : IsT 8 CoilD.cells w R.A R.la M.coils
 shells : IsT 4 ShellD.cells w R.B R.lb M.shells
 limits : IsT 2 PointD.cells w R.C R.lc M.limits
 sensors : IsT 5 SensorD.cells w R.D R.ld M.sensors
 la : R.la ≤ R.ca
 lb : R.lb ≤ R.cb
 lc : R.lc ≤ R.cc
 ld : R.ld ≤ R.cd
 ca : R.ca ≤ 9223372036854775807
 cb : R.cb ≤ 9223372036854775807
 cc : R.cc ≤ 9223372036854775807
 cd : R.cd ≤ 9223372036854775807
theorem IsMo.below {w w1 : World} {R : MachR} {M : MachD} (h : IsMo w R M) (hb : Below w.heap.size w w1) : IsMo w1 R M :=
 ⟨h.coils.below hb, h.shells.below hb, h.limits.below hb, h.sensors.below hb, h.la, h.lb, h.lc, h.ld, h.ca, h.cb, h.cc, h.cd⟩
theorem IsM.mo {w : World} {R : MachR} {M : MachD} (h : IsM w R M) : IsMo w R M := ⟨h.coils, h.shells, h.limits, h.sensors, h.la, h.lb, h.lc, h.ld, h.ca, h.cb, h.cc, h.cd⟩
theorem IsM.below {w w1 : World} {R : MachR} {M : MachD} (h : IsM w R M) (hb : Below w.heap.size w w1) : IsM w1 R M :=
 ⟨h.coils.below hb, h.shells.below hb, h.limits.below hb, h.sensors.below hb, h.la, h.lb, h.lc, h.ld, h.ca, h.cb, h.cc, h.cd, h.ka, h.kb, h.kc, h.kd⟩
theorem isT_new (W : World) (cs : List Int) (t : TypeId) : IsT 1 intCells (W.alloc (.cells (cs.map (Value.int .i64)).toArray t)) (some ⟨W.heap.size, 0, none⟩) cs.length cs :=
 ⟨rfl, fun _ => ⟨_, 0, rfl, by simp, fun j x hx i v hv => by
  rcases i with _ | i
  ·obtain rfl : Value.int .i64 x = v := by simpa [intCells] using hv
   obtain ⟨hj, rfl⟩ := List.getElem?_eq_some_iff.1 hx
   simp [go_sem, hj]
  ·simp [intCells] at hv⟩⟩
theorem check_each {α : Type} {n : Nat} {enc : α → List Value} {w : World} {A : Option Addr} {len : Nat} {zs : List α} (h : IsT n enc w A len zs) {j : Nat} {x : α} (hx : zs[j]? = some x) : IsT n enc w A j (zs.take j) ∧ j ≤ len :=
 have hj : j < zs.length := (List.getElem?_eq_some_iff.1 hx).1
 have : j ≤ len := by rw [h.1] at hj; omega
 ⟨h.take this, this⟩
set_option maxRecDepth 100000 in
set_option maxHeartbeats 8000000 in
theorem check_open (R : MachR) (M : MachD) (w : World) (hM : IsMo w R M) :
  Calls Tryz.prog 38 #[.agg (machCells R M)] w (Ret (.int .i64 (checkC M)) w) := by
 have HE : Hid (checkC M = orL [nameC M.name, eachC coilC 12 M.coils, eachC shellC 16 M.shells, limitsC M.limits, gridC M.grid, eachC sensorC 24 M.sensors]) := Lib.hid rfl
 have H1 := Lib.hid (fun W => checkName_any M.name W)
 have H2 := Lib.hid (fun W (hb : Below w.heap.size w W) => eachCoil 71 coilC 12 R.A R.la R.ca M.coils W (hM.below hb).coils (fun h => by omega) hM.la (by have := hM.ca; omega) (fun args W => enters_of Tryz.func71 kr9 rfl args W)
  (fun hl9 j x W' hx hb' => checkCoil_any x R.A j R.ca (M.coils.take j) W' (check_each ((hM.below hb).coils.below hb') hx).1 (by have := (check_each hM.coils hx).2; omega)))
 have H3 := Lib.hid (fun W (hb : Below w.heap.size w W) => eachShell 73 shellC 16 R.B R.lb R.cb M.shells W (hM.below hb).shells (fun h => by omega) hM.lb (by have := hM.cb; omega) (fun args W => enters_of Tryz.func73 kr9 rfl args W)
  (fun hl9 j x W' hx hb' => checkShell_any x R.B j R.cb (M.shells.take j) W'))
 have H4 := Lib.hid (fun W (hb : Below w.heap.size w W) => checkLimits_any R.C R.lc R.cc M.limits W (hM.below hb).limits hM.lc (by have := hM.cc; omega))
 have H5 := Lib.hid (fun W => checkGrid_any M.grid W)
 have H6 := Lib.hid (fun W (hb : Below w.heap.size w W) => eachSensor 77 sensorC 24 R.D R.ld R.cd M.sensors W (hM.below hb).sensors (fun h => by omega) hM.ld (by have := hM.cd; omega) (fun args W => enters_of Tryz.func77 kr9 rfl args W)
  (fun hl9 j x W' hx hb' => checkSensor_any x R.D j R.cd (M.sensors.take j) W' (check_each ((hM.below hb).sensors.below hb') hx).1 (by have := (check_each hM.sensors hx).2; omega)))
 clear hM
 generalize checkC M = G at *
 generalize nameC M.name = e1 at *
 generalize eachC coilC 12 M.coils = e2 at *
 generalize eachC shellC 16 M.shells = e3 at *
 generalize limitsC M.limits = e4 at *
 generalize gridC M.grid = e5 at *
 generalize eachC sensorC 24 M.sensors = e6 at *
 obtain ⟨A, B, C, D, la, ca, lb, cb, lc, cc, ld, cd⟩ := R
 obtain ⟨name, coils, shells, limits, ⟨r, z, nr, nz, step⟩, sensors⟩ := M
 dsimp only at *
 have H5 := Lib.hid (show ∀ W, Calls Tryz.prog 75 #[.agg #[.int .i64 r, .int .i64 z, .int .i64 nr, .int .i64 nz, .int .i64 step]] W (Ret (.int .i64 e5) W) from H5.out)
 show Calls Tryz.prog 38 #[.agg #[.string name, .slice A la ca, .slice B lb cb, .slice C lc cc, .int .i64 r, .int .i64 z, .int .i64 nr, .int .i64 nz, .int .i64 step, .slice D ld cd]] w _
 go_enter Tryz.func38, Tryz.ntmps38
 go_upto_region 1 with fail
 have HS : Hid (∀ w' : World, Reg (w.heap.size + 1) (w.alloc (.cells #[.string name, .slice A la ca, .slice B lb cb, .slice C lc cc, .int .i64 r, .int .i64 z, .int .i64 nr, .int .i64 nz, .int .i64 step, .slice D ld cd] 29)) w' → (Reg (w.heap.size + 1) (w.alloc (.cells #[.string name, .slice A la ca, .slice B lb cb, .slice C lc cc, .int .i64 r, .int .i64 z, .int .i64 nr, .int .i64 nz, .int .i64 step, .slice D ld cd] 29)) w' ∧ w'.cell? ⟨w.heap.size, 0, none⟩ = some (.string name) ∧ w'.cell? ⟨w.heap.size, 1, none⟩ = some (.slice A la ca) ∧ w'.cell? ⟨w.heap.size, 2, none⟩ = some (.slice B lb cb) ∧ w'.cell? ⟨w.heap.size, 3, none⟩ = some (.slice C lc cc) ∧ w'.cell? ⟨w.heap.size, 4, none⟩ = some (.int .i64 r) ∧ w'.cell? ⟨w.heap.size, 5, none⟩ = some (.int .i64 z) ∧ w'.cell? ⟨w.heap.size, 6, none⟩ = some (.int .i64 nr) ∧ w'.cell? ⟨w.heap.size, 7, none⟩ = some (.int .i64 nz) ∧ w'.cell? ⟨w.heap.size, 8, none⟩ = some (.int .i64 step) ∧ w'.cell? ⟨w.heap.size, 9, none⟩ = some (.slice D ld cd))) := (fun w' h => by (have hc := h.cells; have hs := h.some; have hf := h.frozen; refine ⟨h, ?_⟩; (try simp only [World.size_alloc, World.size_setCell, size_drew, size_drewN] at hc hs hf); first | (simp (disch := omega) only [hc, hs, hf, cur_iff]; (try go_simp); done) | (simp (disch := first | omega | (simp; done)) only [hc, hs, hf, cur_iff]; (try go_simp); done) | (simp (maxDischargeDepth := 4) [hc, hs, hf, cur_iff, go_sem]; done) | (go_simp; done) | (simp (maxDischargeDepth := 4) [hc, hs, hf, cur_iff, go_sem]; go_simp))); go_region_held3 (fun w' => Reg (w.heap.size + 1) (w.alloc (.cells #[.string name, .slice A la ca, .slice B lb cb, .slice C lc cc, .int .i64 r, .int .i64 z, .int .i64 nr, .int .i64 nz, .int .i64 step, .slice D ld cd] 29)) w' ∧ w'.cell? ⟨w.heap.size, 0, none⟩ = some (.string name) ∧ w'.cell? ⟨w.heap.size, 1, none⟩ = some (.slice A la ca) ∧ w'.cell? ⟨w.heap.size, 2, none⟩ = some (.slice B lb cb) ∧ w'.cell? ⟨w.heap.size, 3, none⟩ = some (.slice C lc cc) ∧ w'.cell? ⟨w.heap.size, 4, none⟩ = some (.int .i64 r) ∧ w'.cell? ⟨w.heap.size, 5, none⟩ = some (.int .i64 z) ∧ w'.cell? ⟨w.heap.size, 6, none⟩ = some (.int .i64 nr) ∧ w'.cell? ⟨w.heap.size, 7, none⟩ = some (.int .i64 nz) ∧ w'.cell? ⟨w.heap.size, 8, none⟩ = some (.int .i64 step) ∧ w'.cell? ⟨w.heap.size, 9, none⟩ = some (.slice D ld cd)) (exact HS.out _ (by (repeat first | with_reducible exact Reg.refl _ _ | with_reducible exact (‹Reg _ _ _ ∧ _›).1 | with_reducible refine Reg.alloc ?_ _ | with_reducible refine Reg.drew ?_ | (with_reducible apply Reg.call; rotate_left; with_reducible assumption)))) (first | (go_at_call 69; refine (H1.out _).mono ?_; rintro e w1 ⟨rfl, rfl⟩) | (go_at_call 70; refine (H2.out _ (Reg.out (‹Reg _ _ _ ∧ _›).1 bl9 om9)).mono ?_; rintro e w1 ⟨rfl, hb⟩; (with_reducible have hk := Nat.lt_of_lt_of_le (size_alloc_lt _ _) hb.size); (try simp only [World.size_alloc, World.size_setCell, size_drew, size_drewN] at hk); obtain ⟨hc, hf⟩ := bcell hb; have hs := hb.size; (try simp only [World.size_alloc, World.size_setCell, size_drew, size_drewN] at hs)) | (go_at_call 72; refine (H3.out _ (Reg.out (‹Reg _ _ _ ∧ _›).1 bl9 om9)).mono ?_; rintro e w1 ⟨rfl, hb⟩; (with_reducible have hk := Nat.lt_of_lt_of_le hk hb.size); (try simp only [World.size_alloc, World.size_setCell, size_drew, size_drewN] at hk); obtain ⟨hc, hf⟩ := bcell hb; have hs := hb.size; (try simp only [World.size_alloc, World.size_setCell, size_drew, size_drewN] at hs)) | (go_at_call 74; refine (H4.out _ (Reg.out (‹Reg _ _ _ ∧ _›).1 bl9 om9)).mono ?_; rintro e w1 ⟨rfl, hb⟩; (with_reducible have hk := Nat.lt_of_lt_of_le hk hb.size); (try simp only [World.size_alloc, World.size_setCell, size_drew, size_drewN] at hk); obtain ⟨hc, hf⟩ := bcell hb; have hs := hb.size; (try simp only [World.size_alloc, World.size_setCell, size_drew, size_drewN] at hs)) | (go_at_call 75; refine (H5.out _).mono ?_; rintro e w1 ⟨rfl, hb⟩; (with_reducible have hk := Nat.lt_of_lt_of_le hk hb.size); (try simp only [World.size_alloc, World.size_setCell, size_drew, size_drewN] at hk); obtain ⟨hc, hf⟩ := bcell hb; have hs := hb.size; (try simp only [World.size_alloc, World.size_setCell, size_drew, size_drewN] at hs)) | (go_at_call 76; refine (H6.out _ (Reg.out (‹Reg _ _ _ ∧ _›).1 bl9 om9)).mono ?_; rintro e w1 ⟨rfl, hb⟩; (with_reducible have hk := Nat.lt_of_lt_of_le hk hb.size); (try simp only [World.size_alloc, World.size_setCell, size_drew, size_drewN] at hk); obtain ⟨hc, hf⟩ := bcell hb; have hs := hb.size; (try simp only [World.size_alloc, World.size_setCell, size_drew, size_drewN] at hs)) | (go_at_call 68; refine (or_any _ 6 6 [e1, e2, e3, e4, e5, e6] _ (isT_new _ [e1, e2, e3, e4, e5, e6] _) om9).mono ?_; rintro e w1 ⟨rfl, hb⟩; (with_reducible have hk := Nat.lt_of_lt_of_le (size_alloc_lt _ _) hb.size); (try simp only [World.size_alloc, World.size_setCell, size_drew, size_drewN] at hk); obtain ⟨hc, hf⟩ := bcell hb; have hs := hb.size; (try simp only [World.size_alloc, World.size_setCell, size_drew, size_drewN] at hs)))
 all_goals go_wp2_with fail
 all_goals go_ret
 all_goals exact ⟨by rw [HE.out]; rfl, (Reg.out (‹Reg _ _ _ ∧ _›).1 bl9 om9)⟩
theorem check_any (R : MachR) (M : MachD) (w : World) (hM : IsM w R M) : Calls Tryz.prog 38 #[.agg (machCells R M)] w (Ret (.int .i64 (checkC M)) w) := check_open R M w hM.mo
end
section
open Go.RowKit
theorem IsT.get {α : Type} {n : Nat} {enc : α → List Value} {w : World} {b o len : Nat} {zs : List α} (h : IsT n enc w (some ⟨b, o, none⟩) len zs) {j : Nat} {x : α} (hx : zs[j]? = some x) {i : Nat} {v : Value} (hv : (enc x)[i]? = some v) : w.cell? ⟨b, o + j * n + i, none⟩ = some v := by
 have hj := (List.getElem?_eq_some_iff.1 hx).1
 obtain ⟨b', o', e, _, hc⟩ := h.2 (by rw [← h.1]; omega)
 injection e with e
 injection e with e1 e2
 subst e1 e2
 exact hc j x hx i v hv
set_option maxHeartbeats 400000 in
theorem rwithin2_any (n a b : Int) (w : World) :
  Calls Tryz.prog 44 #[.int .i64 n, .int .i64 a, .int .i64 b] w fun e w' => e = .returned (.bool (wthn n a b)) ∧ w = w' := by
 go_enter Tryz.func44, Tryz.ntmps44
 go_wp2
 all_goals go_ret
 all_goals (simp [wthn]; try omega)
set_option maxHeartbeats 400000 in
theorem rplaced_any (r z : Int) (w : World) :
  Calls Tryz.prog 127 #[.int .i64 r, .int .i64 z] w fun e w' => e = .returned (.bool (nearB r z 60)) ∧ w = w' := by
 have HE : Hid (nearB r z 60 = (wthn r (-60) 60 && wthn z (-60) 60)) := Lib.hid rfl
 cases h : wthn r (-60) 60
 all_goals go_enter Tryz.func127, Tryz.ntmps127
 all_goals go_wp2_with (go_at_call 44; refine (rwithin2_any _ _ _ _).mono ?_; rintro e w1 ⟨rfl, rfl⟩)
 all_goals go_ret
 all_goals exact ⟨by rw [HE.out, h]; rfl, rfl⟩
theorem nameByte_ways {x : Int} (h0 : 0 ≤ x) (h1 : x < 256) :
  (x < 48 ∧ nameByte x = false) ∨ (48 ≤ x ∧ x ≤ 57 ∧ nameByte x = true) ∨ (57 < x ∧ x < 95 ∧ nameByte x = false) ∨ (x = 95 ∧ nameByte x = true) ∨ (95 < x ∧ x < 97 ∧ nameByte x = false) ∨ (97 ≤ x ∧ x ≤ 122 ∧ nameByte x = true) ∨ (122 < x ∧ nameByte x = false) := by
 have e : nameByte x = true ↔ (97 ≤ x ∧ x ≤ 122) ∨ x = 95 ∨ (48 ≤ x ∧ x ≤ 57) := by simp [nameByte, smallB]
 have f : nameByte x = false ↔ ¬((97 ≤ x ∧ x ≤ 122) ∨ x = 95 ∨ (48 ≤ x ∧ x ≤ 57)) := by rw [← e]; simp
 rw [e, f]
 omega
set_option maxHeartbeats 4000000 in
theorem rname_any (s : ByteArray) (w : World) :
  Calls Tryz.prog 123 #[.string s] w fun e w' => e = .returned (.bool (nameB s.data.toList)) ∧ w = w' := by
 have hz : s.data.toList.length = s.size := Array.length_toList
 cases hL : s.data.toList with
 | nil =>
  rw [hL] at hz
  have h1 : s.size = 0 := hz.symm
  clear hz hL
  go_enter Tryz.func123, Tryz.ntmps123
  go_wp2
  go_ret
  exact ⟨rfl, rfl⟩
 | cons c r =>
  rw [hL] at hz
  have hz1 : s.size = r.length + 1 := by rw [← hz]; rfl
  have ix0 : ∀ W : World, (Instr.index 9 (.string s) (.int .i64 0)).run Tryz.prog W = .ok (.int .u8 (c.toNat : Int)) W := fun W => indexS_any s (c :: r) hL 0 (by simp) W
  have HG : Hid (nameB (c :: r) = (decide (r.length < 16) && (smallB c.toNat && (c :: r).all fun b => nameByte b.toNat))) := Lib.hid rfl
  generalize nameB (c :: r) = G at *
  have hs1 : 1 ≤ s.size := by omega
  have hs0 : ¬((s.size : Int) < 1) := by omega
  by_cases h16 : r.length < 16
  ·have hs2 : s.size ≤ 16 := by omega
   have c0 : (0 : Int) ≤ c.toNat := by omega
   by_cases hsm : smallB c.toNat = true
   ·have HN : Hid (G = (c :: r).all fun b => nameByte b.toNat) := Lib.hid (by rw [HG.out, decide_eq_true h16, hsm]; simp)
    obtain ⟨s1, s2⟩ : (97 : Int) ≤ c.toNat ∧ (c.toNat : Int) ≤ 122 := by simpa [smallB] using hsm
    obtain ⟨l, hl⟩ : ∃ l, c :: r = l := ⟨_, rfl⟩
    rw [hl] at HN hL hz
    clear HG hl hz1 hsm
    generalize (c.toNat : Int) = ci at *
    have HL := Lib.hid hL
    have HZ := Lib.hid hz
    clear hL hz
    go_enter Tryz.func123, Tryz.ntmps123
    go_wp2_with fail
    clear ix0 s1 s2
    go_loop [3, 4] (fun i _ => ∃ k : Nat, k ≤ s.size ∧ i = .int .i64 k ∧ Hid (((l.drop k).all fun b => nameByte b.toNat) = G)) (fun i _ => s.size - (intOf i).toNat)
    case atStart => exact ⟨0, Nat.zero_le _, rfl, Lib.hid (by rw [HN.out]; rfl)⟩
    case round =>
     obtain ⟨k, hk, rfl, hG⟩ := hrel
     by_cases hlt : k < s.size
     ·have hkl : k < l.length := by rw [HZ.out]; exact hlt
      have ix := indexS_any s l HL.out k hkl
      have HS := Lib.hid (show (nameByte l[k].toNat && ((l.drop (k + 1)).all fun b => nameByte b.toNat)) = G from by rw [← hG.out, List.drop_eq_getElem_cons hkl]; rfl)
      have c255 : l[k].toNat < 256 := l[k].toNat_lt
      obtain ⟨x, hxe⟩ : ∃ x : Int, (l[k].toNat : Int) = x := ⟨_, rfl⟩
      rw [hxe] at ix HS
      have hx0 : 0 ≤ x := by omega
      have hx1 : x < 256 := by omega
      clear hkl hxe c255
      rcases nameByte_ways hx0 hx1 with ⟨h1, hnb⟩ | ⟨h1, h2, hnb⟩ | ⟨h1, h2, hnb⟩ | ⟨rfl, hnb⟩ | ⟨h1, h2, hnb⟩ | ⟨h1, h2, hnb⟩ | ⟨h1, hnb⟩
      ·rw [hnb] at HS; clear hnb
       have h95 : (x == 95) = false := by rw [beq_eq_false_iff_ne]; omega
       go_wp2_with fail
       go_ret
       exact ⟨by rw [← HS.out]; rfl, rfl⟩
      ·rw [hnb] at HS; clear hnb
       have HT : Hid (((l.drop (k + 1)).all fun b => nameByte b.toNat) = G) := Lib.hid (by have h := HS.out; rwa [Bool.true_and] at h)
       have h95 : (x == 95) = false := by rw [beq_eq_false_iff_ne]; omega
       go_wp2_with fail
       all_goals go_round
       all_goals first | exact ⟨k + 1, by omega, by go_num, HT⟩ | (simp [intOf]; omega)
      ·rw [hnb] at HS; clear hnb
       have d57 : decide (x ≤ 57) = false := decide_eq_false om9
       have h95 : (x == 95) = false := by rw [beq_eq_false_iff_ne]; omega
       go_wp2_with fail
       go_ret
       exact ⟨by rw [← HS.out]; rfl, rfl⟩
      ·rw [hnb] at HS; clear hnb
       have HT : Hid (((l.drop (k + 1)).all fun b => nameByte b.toNat) = G) := Lib.hid (by have h := HS.out; rwa [Bool.true_and] at h)
       go_wp2_with fail
       all_goals go_round
       all_goals first | exact ⟨k + 1, by omega, by go_num, HT⟩ | (simp [intOf]; omega)
      ·rw [hnb] at HS; clear hnb
       have d57 : decide (x ≤ 57) = false := decide_eq_false om9
       have h95 : (x == 95) = false := by rw [beq_eq_false_iff_ne]; omega
       go_wp2_with fail
       go_ret
       exact ⟨by rw [← HS.out]; rfl, rfl⟩
      ·rw [hnb] at HS; clear hnb
       have HT : Hid (((l.drop (k + 1)).all fun b => nameByte b.toNat) = G) := Lib.hid (by have h := HS.out; rwa [Bool.true_and] at h)
       have h95 : (x == 95) = false := by rw [beq_eq_false_iff_ne]; omega
       go_wp2_with fail
       all_goals go_round
       all_goals first | exact ⟨k + 1, by omega, by go_num, HT⟩ | (simp [intOf]; omega)
      ·rw [hnb] at HS; clear hnb
       have d57 : decide (x ≤ 57) = false := decide_eq_false om9
       have d122 : decide (x ≤ 122) = false := decide_eq_false om9
       have h95 : (x == 95) = false := by rw [beq_eq_false_iff_ne]; omega
       go_wp2_with fail
       go_ret
       exact ⟨by rw [← HS.out]; rfl, rfl⟩
     ·have HT : Hid (G = true) := Lib.hid (by rw [← hG.out, List.drop_of_length_le (by rw [HZ.out]; omega)]; rfl)
      go_wp2
      go_ret
      exact ⟨by rw [HT.out]; rfl, rfl⟩
   ·have hsf : smallB c.toNat = false := by simpa using hsm
    have HN : Hid (G = false) := Lib.hid (by rw [HG.out, hsf]; simp)
    have hw : (c.toNat : Int) < 97 ∨ ((97 : Int) ≤ c.toNat ∧ 122 < (c.toNat : Int)) := by
     simp [smallB] at hsf; omega
    clear hz hz1 hL HG hsm hsf
    generalize (c.toNat : Int) = ci at *
    rcases hw with hw | ⟨hw1, hw2⟩
    all_goals go_enter Tryz.func123, Tryz.ntmps123
    all_goals go_wp2_with fail
    all_goals go_ret
    all_goals exact ⟨by rw [HN.out]; rfl, rfl⟩
  ·have hs2 : 16 < s.size := by omega
   have HN : Hid (G = false) := Lib.hid (by rw [HG.out, decide_eq_false h16]; rfl)
   clear hz hz1 hL HG h16
   go_enter Tryz.func123, Tryz.ntmps123
   go_wp2_with fail
   go_ret
   exact ⟨by rw [HN.out]; rfl, rfl⟩
end
end Go.Proofs.YthggkidiidnaoaaGreat
