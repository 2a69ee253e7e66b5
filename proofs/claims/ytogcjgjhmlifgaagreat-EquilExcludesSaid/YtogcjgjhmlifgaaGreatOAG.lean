import Derived.Test.YtogcjgjhmlifgaaGreatOAE
import Derived.Test.YtogcjgjhmlifgaaGreatOAF
import Derived.Deep.RegionHeld3
import Derived.Deep.DeepCutAuto
import Derived.Deep.QuietTactic
import Derived.BigQuiet
import Derived.IntWalk
namespace Go.Proofs.YtogcjgjhmlifgaaGreat
set_option linter.unusedVariables false
set_option linter.unusedSimpArgs false
section
open Go.RowKit
set_option maxHeartbeats 4000000 in
theorem eachCoil (k : Nat) (chk : CoilD → List CoilD → Int) (most : Int) (A : Option Addr) (len cap : Nat) (zs : List CoilD) (w : World) (hI : IsT 8 CoilD.cells w A len zs) (hl : (len : Int) ≤ most → len ≤ 1000000000000000) (hcap : len ≤ cap) (hmax : cap ≤ 9223372036854775807)
    (hE : ∀ (args : Array Value) (W : World), (callFunc k args).run Tryz.prog W = .ok (.enter k args) W)
    (hk : (len : Int) ≤ most → ∀ (j : Nat) (x : CoilD) (W : World), zs[j]? = some x → Below w.heap.size w W → Calls Tryz.prog k #[CoilD.v x, .slice A j cap] W (Ret (.int .i64 (chk x (zs.take j))) W)) :
    Calls Tryz.prog 136 #[.slice A len cap, .int .i64 most, .func (.func k) #[] #[]] w (Ret (.int .i64 (eachC chk most zs)) w) := by
  have HI := Lib.hid hI
  have hz := hI.1
  by_cases hm : most < len
  · have HG : Hid (eachC chk most zs = 4) := Lib.hid (by unfold eachC; rw [if_pos (by omega)])
    clear hI hk hz hl
    generalize eachC chk most zs = G at *
    go_enter Tryz.func136, Tryz.ntmps136
    go_wp2_with fail
    go_ret
    exact ⟨by rw [HG.out]; rfl, by (repeat with_reducible exact Below.refl _ _)⟩
  have hl := hl (by omega)
  have HK := Lib.hid (hk (by omega))
  have HG : Hid (eachC chk most zs = eachGo chk [] zs) := Lib.hid (by unfold eachC; rw [if_neg (by omega)])
  generalize eachC chk most zs = G at *
  clear hI hk hz
  go_enter Tryz.func136, Tryz.ntmps136
  go_wp2_with fail
  go_loopw [7, 8, 9, 16] (fun _ _ _ i wr => ∃ j : Nat, j ≤ len ∧ i = .int .i64 j ∧ Hid (eachGo chk (zs.take j) (zs.drop j) = G) ∧ Below w.heap.size w wr) (fun _ _ _ i _ => len - (intOf i).toNat)
  case atStart => exact ⟨0, Nat.zero_le _, rfl, Lib.hid HG.out.symm, Below.refl _ _⟩
  case round =>
    obtain ⟨j, hj, rfl, hG, hB⟩ := hrel
    by_cases hlt : j < len
    · obtain ⟨hzl, hcl⟩ := HI.out.below hB
      obtain ⟨b, o, rfl, hb0, hcl⟩ := hcl (by omega)
      obtain ⟨x, hx⟩ : ∃ x, zs[j]? = some x := ⟨_, List.getElem?_eq_getElem (by omega)⟩
      have HS := Lib.hid (eachGo_step chk hx)
      have x0 : wr.cell? ⟨b, o + j * 8, none⟩ = some (.string x.name) := by have h := hcl j x hx 0 _ rfl; simpa using h
      have x1 : wr.cell? ⟨b, o + j * 8 + 1, none⟩ = some (.int .i64 x.r) := by have h := hcl j x hx 1 _ rfl; simpa using h
      have x2 : wr.cell? ⟨b, o + j * 8 + 2, none⟩ = some (.int .i64 x.z) := by have h := hcl j x hx 2 _ rfl; simpa using h
      have x3 : wr.cell? ⟨b, o + j * 8 + 3, none⟩ = some (.int .i64 x.turns) := by have h := hcl j x hx 3 _ rfl; simpa using h
      have x4 : wr.cell? ⟨b, o + j * 8 + 4, none⟩ = some (.int .i64 x.cur) := by have h := hcl j x hx 4 _ rfl; simpa using h
      have x5 : wr.cell? ⟨b, o + j * 8 + 5, none⟩ = some (.int .i64 x.step) := by have h := hcl j x hx 5 _ rfl; simpa using h
      have x6 : wr.cell? ⟨b, o + j * 8 + 6, none⟩ = some (.int .i64 x.heat) := by have h := hcl j x hx 6 _ rfl; simpa using h
      have x7 : wr.cell? ⟨b, o + j * 8 + 7, none⟩ = some (.int .i64 x.cool) := by have h := hcl j x hx 7 _ rfl; simpa using h
      have hsz := hB.size
      have HC := Lib.hid (fun W h => HK.out j x W hx h)
      clear hcl hx hzl
      have HS := Lib.hid (hG.out.symm.trans HS.out)
      obtain ⟨e, he⟩ : ∃ e, chk x (zs.take j) = e := ⟨_, rfl⟩
      rw [he] at HC HS
      clear he hG
      have jc : (j : Int) ≤ cap := by omega
      by_cases h0 : e = 0
      · have HN : Hid (eachGo chk (zs.take (j + 1)) (zs.drop (j + 1)) = G) := Lib.hid (by rw [HS.out, if_pos h0])
        subst h0
        clear HS
        go_upto_region 6 with fail
        go_cut [9] (fun s9 wx => s9 = .int .i64 0 ∧ Below w.heap.size w wx)
        case first =>
          have HS : Hid (∀ w' : World, Reg (wr.heap.size + 1) ((wr.alloc (.cells #[.string x.name, .int .i64 x.r, .int .i64 x.z, .int .i64 x.turns, .int .i64 x.cur, .int .i64 x.step, .int .i64 x.heat, .int .i64 x.cool] 164))) w' → (Reg (wr.heap.size + 1) ((wr.alloc (.cells #[.string x.name, .int .i64 x.r, .int .i64 x.z, .int .i64 x.turns, .int .i64 x.cur, .int .i64 x.step, .int .i64 x.heat, .int .i64 x.cool] 164))) w' ∧ w'.cell? ⟨wr.heap.size, 0, none⟩ = some (.string x.name) ∧ w'.cell? ⟨wr.heap.size, 1, none⟩ = some (.int .i64 x.r) ∧ w'.cell? ⟨wr.heap.size, 2, none⟩ = some (.int .i64 x.z) ∧ w'.cell? ⟨wr.heap.size, 3, none⟩ = some (.int .i64 x.turns) ∧ w'.cell? ⟨wr.heap.size, 4, none⟩ = some (.int .i64 x.cur) ∧ w'.cell? ⟨wr.heap.size, 5, none⟩ = some (.int .i64 x.step) ∧ w'.cell? ⟨wr.heap.size, 6, none⟩ = some (.int .i64 x.heat) ∧ w'.cell? ⟨wr.heap.size, 7, none⟩ = some (.int .i64 x.cool))) := (fun w' h => by (have hc := h.cells; have hs := h.some; have hf := h.frozen; refine ⟨h, ?_⟩; (try simp only [World.size_alloc, World.size_setCell, size_drew, size_drewN] at hc hs hf); first | (simp (disch := omega) only [hc, hs, hf, cur_iff]; (try go_simp); done) | (simp (disch := first | omega | (simp; done)) only [hc, hs, hf, cur_iff]; (try go_simp); done) | (simp (maxDischargeDepth := 4) [hc, hs, hf, cur_iff, go_sem]; done) | (go_simp; done) | (simp (maxDischargeDepth := 4) [hc, hs, hf, cur_iff, go_sem]; go_simp))); go_region_held3 (fun w' => Reg (wr.heap.size + 1) ((wr.alloc (.cells #[.string x.name, .int .i64 x.r, .int .i64 x.z, .int .i64 x.turns, .int .i64 x.cur, .int .i64 x.step, .int .i64 x.heat, .int .i64 x.cool] 164))) w' ∧ w'.cell? ⟨wr.heap.size, 0, none⟩ = some (.string x.name) ∧ w'.cell? ⟨wr.heap.size, 1, none⟩ = some (.int .i64 x.r) ∧ w'.cell? ⟨wr.heap.size, 2, none⟩ = some (.int .i64 x.z) ∧ w'.cell? ⟨wr.heap.size, 3, none⟩ = some (.int .i64 x.turns) ∧ w'.cell? ⟨wr.heap.size, 4, none⟩ = some (.int .i64 x.cur) ∧ w'.cell? ⟨wr.heap.size, 5, none⟩ = some (.int .i64 x.step) ∧ w'.cell? ⟨wr.heap.size, 6, none⟩ = some (.int .i64 x.heat) ∧ w'.cell? ⟨wr.heap.size, 7, none⟩ = some (.int .i64 x.cool)) (exact HS.out _ (by (repeat first | with_reducible exact Reg.refl _ _ | with_reducible exact (‹Reg _ _ _ ∧ _›).1 | with_reducible refine Reg.drew ?_ | (with_reducible apply Reg.call; rotate_left; with_reducible assumption)))) (((with_reducible show Calls _ k _ _ _); refine (HC.out _ (Reg.out (‹Reg _ _ _ ∧ _›).1 (by (repeat first | with_reducible assumption | (with_reducible refine Below.alloc ?_ ?_ _; rotate_left; exact (by omega)))) (by omega))).mono ?_; rintro e w1 ⟨rfl, hb⟩; (with_reducible have hk := Nat.lt_of_lt_of_le (size_alloc_lt _ _) hb.size); (try simp only [World.size_alloc, World.size_setCell, size_drew, size_drewN] at hk); obtain ⟨hc, hf⟩ := bcell hb; have hs := hb.size; (try simp only [World.size_alloc, World.size_setCell, size_drew, size_drewN] at hs)))
          all_goals go_wp2_with fail
          all_goals go_meet
          all_goals exact ⟨rfl, (Reg.out (‹Reg _ _ _ ∧ _›).1 (by (repeat first | with_reducible assumption | (with_reducible refine Below.alloc ?_ ?_ _; rotate_left; exact (by omega)))) (by omega))⟩
        case rest =>
          obtain ⟨rfl, hB1⟩ := hcut
          go_wp2_with fail
          go_roundw
          case rel => exact ⟨j + 1, by omega, by go_num, HN, hB1⟩
          case measure => simp [intOf]; omega
      · have HN : Hid (e = G) := Lib.hid (by rw [HS.out, if_neg h0])
        have hne : (e != 0) = true := by rw [bne_iff_ne]; exact h0
        clear HS
        go_upto_region 6 with fail
        go_cut [9] (fun s9 wx => s9 = .int .i64 e ∧ Below w.heap.size w wx)
        case first =>
          have HS : Hid (∀ w' : World, Reg (wr.heap.size + 1) ((wr.alloc (.cells #[.string x.name, .int .i64 x.r, .int .i64 x.z, .int .i64 x.turns, .int .i64 x.cur, .int .i64 x.step, .int .i64 x.heat, .int .i64 x.cool] 164))) w' → (Reg (wr.heap.size + 1) ((wr.alloc (.cells #[.string x.name, .int .i64 x.r, .int .i64 x.z, .int .i64 x.turns, .int .i64 x.cur, .int .i64 x.step, .int .i64 x.heat, .int .i64 x.cool] 164))) w' ∧ w'.cell? ⟨wr.heap.size, 0, none⟩ = some (.string x.name) ∧ w'.cell? ⟨wr.heap.size, 1, none⟩ = some (.int .i64 x.r) ∧ w'.cell? ⟨wr.heap.size, 2, none⟩ = some (.int .i64 x.z) ∧ w'.cell? ⟨wr.heap.size, 3, none⟩ = some (.int .i64 x.turns) ∧ w'.cell? ⟨wr.heap.size, 4, none⟩ = some (.int .i64 x.cur) ∧ w'.cell? ⟨wr.heap.size, 5, none⟩ = some (.int .i64 x.step) ∧ w'.cell? ⟨wr.heap.size, 6, none⟩ = some (.int .i64 x.heat) ∧ w'.cell? ⟨wr.heap.size, 7, none⟩ = some (.int .i64 x.cool))) := (fun w' h => by (have hc := h.cells; have hs := h.some; have hf := h.frozen; refine ⟨h, ?_⟩; (try simp only [World.size_alloc, World.size_setCell, size_drew, size_drewN] at hc hs hf); first | (simp (disch := omega) only [hc, hs, hf, cur_iff]; (try go_simp); done) | (simp (disch := first | omega | (simp; done)) only [hc, hs, hf, cur_iff]; (try go_simp); done) | (simp (maxDischargeDepth := 4) [hc, hs, hf, cur_iff, go_sem]; done) | (go_simp; done) | (simp (maxDischargeDepth := 4) [hc, hs, hf, cur_iff, go_sem]; go_simp))); go_region_held3 (fun w' => Reg (wr.heap.size + 1) ((wr.alloc (.cells #[.string x.name, .int .i64 x.r, .int .i64 x.z, .int .i64 x.turns, .int .i64 x.cur, .int .i64 x.step, .int .i64 x.heat, .int .i64 x.cool] 164))) w' ∧ w'.cell? ⟨wr.heap.size, 0, none⟩ = some (.string x.name) ∧ w'.cell? ⟨wr.heap.size, 1, none⟩ = some (.int .i64 x.r) ∧ w'.cell? ⟨wr.heap.size, 2, none⟩ = some (.int .i64 x.z) ∧ w'.cell? ⟨wr.heap.size, 3, none⟩ = some (.int .i64 x.turns) ∧ w'.cell? ⟨wr.heap.size, 4, none⟩ = some (.int .i64 x.cur) ∧ w'.cell? ⟨wr.heap.size, 5, none⟩ = some (.int .i64 x.step) ∧ w'.cell? ⟨wr.heap.size, 6, none⟩ = some (.int .i64 x.heat) ∧ w'.cell? ⟨wr.heap.size, 7, none⟩ = some (.int .i64 x.cool)) (exact HS.out _ (by (repeat first | with_reducible exact Reg.refl _ _ | with_reducible exact (‹Reg _ _ _ ∧ _›).1 | with_reducible refine Reg.drew ?_ | (with_reducible apply Reg.call; rotate_left; with_reducible assumption)))) (((with_reducible show Calls _ k _ _ _); refine (HC.out _ (Reg.out (‹Reg _ _ _ ∧ _›).1 (by (repeat first | with_reducible assumption | (with_reducible refine Below.alloc ?_ ?_ _; rotate_left; exact (by omega)))) (by omega))).mono ?_; rintro e w1 ⟨rfl, hb⟩; (with_reducible have hk := Nat.lt_of_lt_of_le (size_alloc_lt _ _) hb.size); (try simp only [World.size_alloc, World.size_setCell, size_drew, size_drewN] at hk); obtain ⟨hc, hf⟩ := bcell hb; have hs := hb.size; (try simp only [World.size_alloc, World.size_setCell, size_drew, size_drewN] at hs)))
          all_goals go_wp2_with fail
          all_goals go_meet
          all_goals exact ⟨rfl, (Reg.out (‹Reg _ _ _ ∧ _›).1 (by (repeat first | with_reducible assumption | (with_reducible refine Below.alloc ?_ ?_ _; rotate_left; exact (by omega)))) (by omega))⟩
        case rest =>
          obtain ⟨rfl, hB1⟩ := hcut
          go_wp2_with fail
          go_ret
          exact ⟨by rw [← HN.out]; rfl, hB1⟩
    · have HN : Hid ((0 : Int) = G) := Lib.hid (by rw [← hG.out, List.drop_of_length_le (by rw [HI.out.1]; omega)]; rfl)
      go_wp2
      go_ret
      exact ⟨by rw [← HN.out]; rfl, hB⟩
end
section
open Go.RowKit
set_option maxHeartbeats 4000000 in
theorem eachShell (k : Nat) (chk : ShellD → List ShellD → Int) (most : Int) (A : Option Addr) (len cap : Nat) (zs : List ShellD) (w : World) (hI : IsT 4 ShellD.cells w A len zs) (hl : (len : Int) ≤ most → len ≤ 1000000000000000) (hcap : len ≤ cap) (hmax : cap ≤ 9223372036854775807)
    (hE : ∀ (args : Array Value) (W : World), (callFunc k args).run Tryz.prog W = .ok (.enter k args) W)
    (hk : (len : Int) ≤ most → ∀ (j : Nat) (x : ShellD) (W : World), zs[j]? = some x → Below w.heap.size w W → Calls Tryz.prog k #[ShellD.v x, .slice A j cap] W (Ret (.int .i64 (chk x (zs.take j))) W)) :
    Calls Tryz.prog 138 #[.slice A len cap, .int .i64 most, .func (.func k) #[] #[]] w (Ret (.int .i64 (eachC chk most zs)) w) := by
  have HI := Lib.hid hI
  have hz := hI.1
  by_cases hm : most < len
  · have HG : Hid (eachC chk most zs = 4) := Lib.hid (by unfold eachC; rw [if_pos (by omega)])
    clear hI hk hz hl
    generalize eachC chk most zs = G at *
    go_enter Tryz.func138, Tryz.ntmps138
    go_wp2_with fail
    go_ret
    exact ⟨by rw [HG.out]; rfl, by (repeat with_reducible exact Below.refl _ _)⟩
  have hl := hl (by omega)
  have HK := Lib.hid (hk (by omega))
  have HG : Hid (eachC chk most zs = eachGo chk [] zs) := Lib.hid (by unfold eachC; rw [if_neg (by omega)])
  generalize eachC chk most zs = G at *
  clear hI hk hz
  go_enter Tryz.func138, Tryz.ntmps138
  go_wp2_with fail
  go_loopw [7, 8, 9, 16] (fun _ _ _ i wr => ∃ j : Nat, j ≤ len ∧ i = .int .i64 j ∧ Hid (eachGo chk (zs.take j) (zs.drop j) = G) ∧ Below w.heap.size w wr) (fun _ _ _ i _ => len - (intOf i).toNat)
  case atStart => exact ⟨0, Nat.zero_le _, rfl, Lib.hid HG.out.symm, Below.refl _ _⟩
  case round =>
    obtain ⟨j, hj, rfl, hG, hB⟩ := hrel
    by_cases hlt : j < len
    · obtain ⟨hzl, hcl⟩ := HI.out.below hB
      obtain ⟨b, o, rfl, hb0, hcl⟩ := hcl (by omega)
      obtain ⟨x, hx⟩ : ∃ x, zs[j]? = some x := ⟨_, List.getElem?_eq_getElem (by omega)⟩
      have HS := Lib.hid (eachGo_step chk hx)
      have x0 : wr.cell? ⟨b, o + j * 4, none⟩ = some (.int .i64 x.r) := by have h := hcl j x hx 0 _ rfl; simpa using h
      have x1 : wr.cell? ⟨b, o + j * 4 + 1, none⟩ = some (.int .i64 x.z) := by have h := hcl j x hx 1 _ rfl; simpa using h
      have x2 : wr.cell? ⟨b, o + j * 4 + 2, none⟩ = some (.int .i64 x.self) := by have h := hcl j x hx 2 _ rfl; simpa using h
      have x3 : wr.cell? ⟨b, o + j * 4 + 3, none⟩ = some (.int .i64 x.loss) := by have h := hcl j x hx 3 _ rfl; simpa using h
      have hsz := hB.size
      have HC := Lib.hid (fun W h => HK.out j x W hx h)
      clear hcl hx hzl
      have HS := Lib.hid (hG.out.symm.trans HS.out)
      obtain ⟨e, he⟩ : ∃ e, chk x (zs.take j) = e := ⟨_, rfl⟩
      rw [he] at HC HS
      clear he hG
      have jc : (j : Int) ≤ cap := by omega
      by_cases h0 : e = 0
      · have HN : Hid (eachGo chk (zs.take (j + 1)) (zs.drop (j + 1)) = G) := Lib.hid (by rw [HS.out, if_pos h0])
        subst h0
        clear HS
        go_upto_region 6 with fail
        go_cut [9] (fun s9 wx => s9 = .int .i64 0 ∧ Below w.heap.size w wx)
        case first =>
          have HS : Hid (∀ w' : World, Reg (wr.heap.size + 1) ((wr.alloc (.cells #[.int .i64 x.r, .int .i64 x.z, .int .i64 x.self, .int .i64 x.loss] 168))) w' → (Reg (wr.heap.size + 1) ((wr.alloc (.cells #[.int .i64 x.r, .int .i64 x.z, .int .i64 x.self, .int .i64 x.loss] 168))) w' ∧ w'.cell? ⟨wr.heap.size, 0, none⟩ = some (.int .i64 x.r) ∧ w'.cell? ⟨wr.heap.size, 1, none⟩ = some (.int .i64 x.z) ∧ w'.cell? ⟨wr.heap.size, 2, none⟩ = some (.int .i64 x.self) ∧ w'.cell? ⟨wr.heap.size, 3, none⟩ = some (.int .i64 x.loss))) := (fun w' h => by (have hc := h.cells; have hs := h.some; have hf := h.frozen; refine ⟨h, ?_⟩; (try simp only [World.size_alloc, World.size_setCell, size_drew, size_drewN] at hc hs hf); first | (simp (disch := omega) only [hc, hs, hf, cur_iff]; (try go_simp); done) | (simp (disch := first | omega | (simp; done)) only [hc, hs, hf, cur_iff]; (try go_simp); done) | (simp (maxDischargeDepth := 4) [hc, hs, hf, cur_iff, go_sem]; done) | (go_simp; done) | (simp (maxDischargeDepth := 4) [hc, hs, hf, cur_iff, go_sem]; go_simp))); go_region_held3 (fun w' => Reg (wr.heap.size + 1) ((wr.alloc (.cells #[.int .i64 x.r, .int .i64 x.z, .int .i64 x.self, .int .i64 x.loss] 168))) w' ∧ w'.cell? ⟨wr.heap.size, 0, none⟩ = some (.int .i64 x.r) ∧ w'.cell? ⟨wr.heap.size, 1, none⟩ = some (.int .i64 x.z) ∧ w'.cell? ⟨wr.heap.size, 2, none⟩ = some (.int .i64 x.self) ∧ w'.cell? ⟨wr.heap.size, 3, none⟩ = some (.int .i64 x.loss)) (exact HS.out _ (by (repeat first | with_reducible exact Reg.refl _ _ | with_reducible exact (‹Reg _ _ _ ∧ _›).1 | with_reducible refine Reg.drew ?_ | (with_reducible apply Reg.call; rotate_left; with_reducible assumption)))) (((with_reducible show Calls _ k _ _ _); refine (HC.out _ (Reg.out (‹Reg _ _ _ ∧ _›).1 (by (repeat first | with_reducible assumption | (with_reducible refine Below.alloc ?_ ?_ _; rotate_left; exact (by omega)))) (by omega))).mono ?_; rintro e w1 ⟨rfl, hb⟩; (with_reducible have hk := Nat.lt_of_lt_of_le (size_alloc_lt _ _) hb.size); (try simp only [World.size_alloc, World.size_setCell, size_drew, size_drewN] at hk); obtain ⟨hc, hf⟩ := bcell hb; have hs := hb.size; (try simp only [World.size_alloc, World.size_setCell, size_drew, size_drewN] at hs)))
          all_goals go_wp2_with fail
          all_goals go_meet
          all_goals exact ⟨rfl, (Reg.out (‹Reg _ _ _ ∧ _›).1 (by (repeat first | with_reducible assumption | (with_reducible refine Below.alloc ?_ ?_ _; rotate_left; exact (by omega)))) (by omega))⟩
        case rest =>
          obtain ⟨rfl, hB1⟩ := hcut
          go_wp2_with fail
          go_roundw
          case rel => exact ⟨j + 1, by omega, by go_num, HN, hB1⟩
          case measure => simp [intOf]; omega
      · have HN : Hid (e = G) := Lib.hid (by rw [HS.out, if_neg h0])
        have hne : (e != 0) = true := by rw [bne_iff_ne]; exact h0
        clear HS
        go_upto_region 6 with fail
        go_cut [9] (fun s9 wx => s9 = .int .i64 e ∧ Below w.heap.size w wx)
        case first =>
          have HS : Hid (∀ w' : World, Reg (wr.heap.size + 1) ((wr.alloc (.cells #[.int .i64 x.r, .int .i64 x.z, .int .i64 x.self, .int .i64 x.loss] 168))) w' → (Reg (wr.heap.size + 1) ((wr.alloc (.cells #[.int .i64 x.r, .int .i64 x.z, .int .i64 x.self, .int .i64 x.loss] 168))) w' ∧ w'.cell? ⟨wr.heap.size, 0, none⟩ = some (.int .i64 x.r) ∧ w'.cell? ⟨wr.heap.size, 1, none⟩ = some (.int .i64 x.z) ∧ w'.cell? ⟨wr.heap.size, 2, none⟩ = some (.int .i64 x.self) ∧ w'.cell? ⟨wr.heap.size, 3, none⟩ = some (.int .i64 x.loss))) := (fun w' h => by (have hc := h.cells; have hs := h.some; have hf := h.frozen; refine ⟨h, ?_⟩; (try simp only [World.size_alloc, World.size_setCell, size_drew, size_drewN] at hc hs hf); first | (simp (disch := omega) only [hc, hs, hf, cur_iff]; (try go_simp); done) | (simp (disch := first | omega | (simp; done)) only [hc, hs, hf, cur_iff]; (try go_simp); done) | (simp (maxDischargeDepth := 4) [hc, hs, hf, cur_iff, go_sem]; done) | (go_simp; done) | (simp (maxDischargeDepth := 4) [hc, hs, hf, cur_iff, go_sem]; go_simp))); go_region_held3 (fun w' => Reg (wr.heap.size + 1) ((wr.alloc (.cells #[.int .i64 x.r, .int .i64 x.z, .int .i64 x.self, .int .i64 x.loss] 168))) w' ∧ w'.cell? ⟨wr.heap.size, 0, none⟩ = some (.int .i64 x.r) ∧ w'.cell? ⟨wr.heap.size, 1, none⟩ = some (.int .i64 x.z) ∧ w'.cell? ⟨wr.heap.size, 2, none⟩ = some (.int .i64 x.self) ∧ w'.cell? ⟨wr.heap.size, 3, none⟩ = some (.int .i64 x.loss)) (exact HS.out _ (by (repeat first | with_reducible exact Reg.refl _ _ | with_reducible exact (‹Reg _ _ _ ∧ _›).1 | with_reducible refine Reg.drew ?_ | (with_reducible apply Reg.call; rotate_left; with_reducible assumption)))) (((with_reducible show Calls _ k _ _ _); refine (HC.out _ (Reg.out (‹Reg _ _ _ ∧ _›).1 (by (repeat first | with_reducible assumption | (with_reducible refine Below.alloc ?_ ?_ _; rotate_left; exact (by omega)))) (by omega))).mono ?_; rintro e w1 ⟨rfl, hb⟩; (with_reducible have hk := Nat.lt_of_lt_of_le (size_alloc_lt _ _) hb.size); (try simp only [World.size_alloc, World.size_setCell, size_drew, size_drewN] at hk); obtain ⟨hc, hf⟩ := bcell hb; have hs := hb.size; (try simp only [World.size_alloc, World.size_setCell, size_drew, size_drewN] at hs)))
          all_goals go_wp2_with fail
          all_goals go_meet
          all_goals exact ⟨rfl, (Reg.out (‹Reg _ _ _ ∧ _›).1 (by (repeat first | with_reducible assumption | (with_reducible refine Below.alloc ?_ ?_ _; rotate_left; exact (by omega)))) (by omega))⟩
        case rest =>
          obtain ⟨rfl, hB1⟩ := hcut
          go_wp2_with fail
          go_ret
          exact ⟨by rw [← HN.out]; rfl, hB1⟩
    · have HN : Hid ((0 : Int) = G) := Lib.hid (by rw [← hG.out, List.drop_of_length_le (by rw [HI.out.1]; omega)]; rfl)
      go_wp2
      go_ret
      exact ⟨by rw [← HN.out]; rfl, hB⟩
end
section
open Go.RowKit
set_option maxHeartbeats 4000000 in
theorem eachSensor (k : Nat) (chk : SensorD → List SensorD → Int) (most : Int) (A : Option Addr) (len cap : Nat) (zs : List SensorD) (w : World) (hI : IsT 5 SensorD.cells w A len zs) (hl : (len : Int) ≤ most → len ≤ 1000000000000000) (hcap : len ≤ cap) (hmax : cap ≤ 9223372036854775807)
    (hE : ∀ (args : Array Value) (W : World), (callFunc k args).run Tryz.prog W = .ok (.enter k args) W)
    (hk : (len : Int) ≤ most → ∀ (j : Nat) (x : SensorD) (W : World), zs[j]? = some x → Below w.heap.size w W → Calls Tryz.prog k #[SensorD.v x, .slice A j cap] W (Ret (.int .i64 (chk x (zs.take j))) W)) :
    Calls Tryz.prog 142 #[.slice A len cap, .int .i64 most, .func (.func k) #[] #[]] w (Ret (.int .i64 (eachC chk most zs)) w) := by
  have HI := Lib.hid hI
  have hz := hI.1
  by_cases hm : most < len
  · have HG : Hid (eachC chk most zs = 4) := Lib.hid (by unfold eachC; rw [if_pos (by omega)])
    clear hI hk hz hl
    generalize eachC chk most zs = G at *
    go_enter Tryz.func142, Tryz.ntmps142
    go_wp2_with fail
    go_ret
    exact ⟨by rw [HG.out]; rfl, by (repeat with_reducible exact Below.refl _ _)⟩
  have hl := hl (by omega)
  have HK := Lib.hid (hk (by omega))
  have HG : Hid (eachC chk most zs = eachGo chk [] zs) := Lib.hid (by unfold eachC; rw [if_neg (by omega)])
  generalize eachC chk most zs = G at *
  clear hI hk hz
  go_enter Tryz.func142, Tryz.ntmps142
  go_wp2_with fail
  go_loopw [7, 8, 9, 16] (fun _ _ _ i wr => ∃ j : Nat, j ≤ len ∧ i = .int .i64 j ∧ Hid (eachGo chk (zs.take j) (zs.drop j) = G) ∧ Below w.heap.size w wr) (fun _ _ _ i _ => len - (intOf i).toNat)
  case atStart => exact ⟨0, Nat.zero_le _, rfl, Lib.hid HG.out.symm, Below.refl _ _⟩
  case round =>
    obtain ⟨j, hj, rfl, hG, hB⟩ := hrel
    by_cases hlt : j < len
    · obtain ⟨hzl, hcl⟩ := HI.out.below hB
      obtain ⟨b, o, rfl, hb0, hcl⟩ := hcl (by omega)
      obtain ⟨x, hx⟩ : ∃ x, zs[j]? = some x := ⟨_, List.getElem?_eq_getElem (by omega)⟩
      have HS := Lib.hid (eachGo_step chk hx)
      have x0 : wr.cell? ⟨b, o + j * 5, none⟩ = some (.string x.name) := by have h := hcl j x hx 0 _ rfl; simpa using h
      have x1 : wr.cell? ⟨b, o + j * 5 + 1, none⟩ = some (.int .i64 x.kind) := by have h := hcl j x hx 1 _ rfl; simpa using h
      have x2 : wr.cell? ⟨b, o + j * 5 + 2, none⟩ = some (.int .i64 x.r) := by have h := hcl j x hx 2 _ rfl; simpa using h
      have x3 : wr.cell? ⟨b, o + j * 5 + 3, none⟩ = some (.int .i64 x.z) := by have h := hcl j x hx 3 _ rfl; simpa using h
      have x4 : wr.cell? ⟨b, o + j * 5 + 4, none⟩ = some (.int .i64 x.error) := by have h := hcl j x hx 4 _ rfl; simpa using h
      have hsz := hB.size
      have HC := Lib.hid (fun W h => HK.out j x W hx h)
      clear hcl hx hzl
      have HS := Lib.hid (hG.out.symm.trans HS.out)
      obtain ⟨e, he⟩ : ∃ e, chk x (zs.take j) = e := ⟨_, rfl⟩
      rw [he] at HC HS
      clear he hG
      have jc : (j : Int) ≤ cap := by omega
      by_cases h0 : e = 0
      · have HN : Hid (eachGo chk (zs.take (j + 1)) (zs.drop (j + 1)) = G) := Lib.hid (by rw [HS.out, if_pos h0])
        subst h0
        clear HS
        go_upto_region 6 with fail
        go_cut [9] (fun s9 wx => s9 = .int .i64 0 ∧ Below w.heap.size w wx)
        case first =>
          have HS : Hid (∀ w' : World, Reg (wr.heap.size + 1) ((wr.alloc (.cells #[.string x.name, .int .i64 x.kind, .int .i64 x.r, .int .i64 x.z, .int .i64 x.error] 174))) w' → (Reg (wr.heap.size + 1) ((wr.alloc (.cells #[.string x.name, .int .i64 x.kind, .int .i64 x.r, .int .i64 x.z, .int .i64 x.error] 174))) w' ∧ w'.cell? ⟨wr.heap.size, 0, none⟩ = some (.string x.name) ∧ w'.cell? ⟨wr.heap.size, 1, none⟩ = some (.int .i64 x.kind) ∧ w'.cell? ⟨wr.heap.size, 2, none⟩ = some (.int .i64 x.r) ∧ w'.cell? ⟨wr.heap.size, 3, none⟩ = some (.int .i64 x.z) ∧ w'.cell? ⟨wr.heap.size, 4, none⟩ = some (.int .i64 x.error))) := (fun w' h => by (have hc := h.cells; have hs := h.some; have hf := h.frozen; refine ⟨h, ?_⟩; (try simp only [World.size_alloc, World.size_setCell, size_drew, size_drewN] at hc hs hf); first | (simp (disch := omega) only [hc, hs, hf, cur_iff]; (try go_simp); done) | (simp (disch := first | omega | (simp; done)) only [hc, hs, hf, cur_iff]; (try go_simp); done) | (simp (maxDischargeDepth := 4) [hc, hs, hf, cur_iff, go_sem]; done) | (go_simp; done) | (simp (maxDischargeDepth := 4) [hc, hs, hf, cur_iff, go_sem]; go_simp))); go_region_held3 (fun w' => Reg (wr.heap.size + 1) ((wr.alloc (.cells #[.string x.name, .int .i64 x.kind, .int .i64 x.r, .int .i64 x.z, .int .i64 x.error] 174))) w' ∧ w'.cell? ⟨wr.heap.size, 0, none⟩ = some (.string x.name) ∧ w'.cell? ⟨wr.heap.size, 1, none⟩ = some (.int .i64 x.kind) ∧ w'.cell? ⟨wr.heap.size, 2, none⟩ = some (.int .i64 x.r) ∧ w'.cell? ⟨wr.heap.size, 3, none⟩ = some (.int .i64 x.z) ∧ w'.cell? ⟨wr.heap.size, 4, none⟩ = some (.int .i64 x.error)) (exact HS.out _ (by (repeat first | with_reducible exact Reg.refl _ _ | with_reducible exact (‹Reg _ _ _ ∧ _›).1 | with_reducible refine Reg.drew ?_ | (with_reducible apply Reg.call; rotate_left; with_reducible assumption)))) (((with_reducible show Calls _ k _ _ _); refine (HC.out _ (Reg.out (‹Reg _ _ _ ∧ _›).1 (by (repeat first | with_reducible assumption | (with_reducible refine Below.alloc ?_ ?_ _; rotate_left; exact (by omega)))) (by omega))).mono ?_; rintro e w1 ⟨rfl, hb⟩; (with_reducible have hk := Nat.lt_of_lt_of_le (size_alloc_lt _ _) hb.size); (try simp only [World.size_alloc, World.size_setCell, size_drew, size_drewN] at hk); obtain ⟨hc, hf⟩ := bcell hb; have hs := hb.size; (try simp only [World.size_alloc, World.size_setCell, size_drew, size_drewN] at hs)))
          all_goals go_wp2_with fail
          all_goals go_meet
          all_goals exact ⟨rfl, (Reg.out (‹Reg _ _ _ ∧ _›).1 (by (repeat first | with_reducible assumption | (with_reducible refine Below.alloc ?_ ?_ _; rotate_left; exact (by omega)))) (by omega))⟩
        case rest =>
          obtain ⟨rfl, hB1⟩ := hcut
          go_wp2_with fail
          go_roundw
          case rel => exact ⟨j + 1, by omega, by go_num, HN, hB1⟩
          case measure => simp [intOf]; omega
      · have HN : Hid (e = G) := Lib.hid (by rw [HS.out, if_neg h0])
        have hne : (e != 0) = true := by rw [bne_iff_ne]; exact h0
        clear HS
        go_upto_region 6 with fail
        go_cut [9] (fun s9 wx => s9 = .int .i64 e ∧ Below w.heap.size w wx)
        case first =>
          have HS : Hid (∀ w' : World, Reg (wr.heap.size + 1) ((wr.alloc (.cells #[.string x.name, .int .i64 x.kind, .int .i64 x.r, .int .i64 x.z, .int .i64 x.error] 174))) w' → (Reg (wr.heap.size + 1) ((wr.alloc (.cells #[.string x.name, .int .i64 x.kind, .int .i64 x.r, .int .i64 x.z, .int .i64 x.error] 174))) w' ∧ w'.cell? ⟨wr.heap.size, 0, none⟩ = some (.string x.name) ∧ w'.cell? ⟨wr.heap.size, 1, none⟩ = some (.int .i64 x.kind) ∧ w'.cell? ⟨wr.heap.size, 2, none⟩ = some (.int .i64 x.r) ∧ w'.cell? ⟨wr.heap.size, 3, none⟩ = some (.int .i64 x.z) ∧ w'.cell? ⟨wr.heap.size, 4, none⟩ = some (.int .i64 x.error))) := (fun w' h => by (have hc := h.cells; have hs := h.some; have hf := h.frozen; refine ⟨h, ?_⟩; (try simp only [World.size_alloc, World.size_setCell, size_drew, size_drewN] at hc hs hf); first | (simp (disch := omega) only [hc, hs, hf, cur_iff]; (try go_simp); done) | (simp (disch := first | omega | (simp; done)) only [hc, hs, hf, cur_iff]; (try go_simp); done) | (simp (maxDischargeDepth := 4) [hc, hs, hf, cur_iff, go_sem]; done) | (go_simp; done) | (simp (maxDischargeDepth := 4) [hc, hs, hf, cur_iff, go_sem]; go_simp))); go_region_held3 (fun w' => Reg (wr.heap.size + 1) ((wr.alloc (.cells #[.string x.name, .int .i64 x.kind, .int .i64 x.r, .int .i64 x.z, .int .i64 x.error] 174))) w' ∧ w'.cell? ⟨wr.heap.size, 0, none⟩ = some (.string x.name) ∧ w'.cell? ⟨wr.heap.size, 1, none⟩ = some (.int .i64 x.kind) ∧ w'.cell? ⟨wr.heap.size, 2, none⟩ = some (.int .i64 x.r) ∧ w'.cell? ⟨wr.heap.size, 3, none⟩ = some (.int .i64 x.z) ∧ w'.cell? ⟨wr.heap.size, 4, none⟩ = some (.int .i64 x.error)) (exact HS.out _ (by (repeat first | with_reducible exact Reg.refl _ _ | with_reducible exact (‹Reg _ _ _ ∧ _›).1 | with_reducible refine Reg.drew ?_ | (with_reducible apply Reg.call; rotate_left; with_reducible assumption)))) (((with_reducible show Calls _ k _ _ _); refine (HC.out _ (Reg.out (‹Reg _ _ _ ∧ _›).1 (by (repeat first | with_reducible assumption | (with_reducible refine Below.alloc ?_ ?_ _; rotate_left; exact (by omega)))) (by omega))).mono ?_; rintro e w1 ⟨rfl, hb⟩; (with_reducible have hk := Nat.lt_of_lt_of_le (size_alloc_lt _ _) hb.size); (try simp only [World.size_alloc, World.size_setCell, size_drew, size_drewN] at hk); obtain ⟨hc, hf⟩ := bcell hb; have hs := hb.size; (try simp only [World.size_alloc, World.size_setCell, size_drew, size_drewN] at hs)))
          all_goals go_wp2_with fail
          all_goals go_meet
          all_goals exact ⟨rfl, (Reg.out (‹Reg _ _ _ ∧ _›).1 (by (repeat first | with_reducible assumption | (with_reducible refine Below.alloc ?_ ?_ _; rotate_left; exact (by omega)))) (by omega))⟩
        case rest =>
          obtain ⟨rfl, hB1⟩ := hcut
          go_wp2_with fail
          go_ret
          exact ⟨by rw [← HN.out]; rfl, hB1⟩
    · have HN : Hid ((0 : Int) = G) := Lib.hid (by rw [← hG.out, List.drop_of_length_le (by rw [HI.out.1]; omega)]; rfl)
      go_wp2
      go_ret
      exact ⟨by rw [← HN.out]; rfl, hB⟩
end
section
open Go.RowKit Go.Shelf
structure MachR where
  (A B C D : Option Addr) (la ca lb cb lc cc ld cd : Nat)
def machCells (R : MachR) (M : MachD) : Array Value :=
  #[.string M.name, .slice R.A R.la R.ca, .slice R.B R.lb R.cb, .slice R.C R.lc R.cc, .int .i64 M.grid.r, .int .i64 M.grid.z, .int .i64 M.grid.nr, .int .i64 M.grid.nz, .int .i64 M.grid.step, .slice R.D R.ld R.cd]
structure IsM (w : World) (R : MachR) (M : MachD) : Prop where
  coils : IsT 8 CoilD.cells w R.A R.la M.coils
  shells : IsT 4 ShellD.cells w R.B R.lb M.shells
  limits : IsT 2 PointD.cells w R.C R.lc M.limits
  sensors : IsT 5 SensorD.cells w R.D R.ld M.sensors
  la : R.la ≤ R.ca
  lb : R.lb ≤ R.cb
  lc : R.lc ≤ R.cc
  ld : R.ld ≤ R.cd
  ca : R.ca ≤ 9223372036854775807
  cb : R.cb ≤ 9223372036854775807
  cc : R.cc ≤ 9223372036854775807
  cd : R.cd ≤ 9223372036854775807
  ka : R.la ≤ 1000000000000000
  kb : R.lb ≤ 1000000000000000
  kc : R.lc ≤ 1000000000000000
  kd : R.ld ≤ 1000000000000000
structure IsMo (w : World) (R : MachR) (M : MachD) : Prop where
  coils : IsT 8 CoilD.cells w R.A R.la M.coils
  shells : IsT 4 ShellD.cells w R.B R.lb M.shells
  limits : IsT 2 PointD.cells w R.C R.lc M.limits
  sensors : IsT 5 SensorD.cells w R.D R.ld M.sensors
  la : R.la ≤ R.ca
  lb : R.lb ≤ R.cb
  lc : R.lc ≤ R.cc
  ld : R.ld ≤ R.cd
  ca : R.ca ≤ 9223372036854775807
  cb : R.cb ≤ 9223372036854775807
  cc : R.cc ≤ 9223372036854775807
  cd : R.cd ≤ 9223372036854775807
theorem IsMo.below {w w1 : World} {R : MachR} {M : MachD} (h : IsMo w R M) (hb : Below w.heap.size w w1) : IsMo w1 R M :=
  ⟨h.coils.below hb, h.shells.below hb, h.limits.below hb, h.sensors.below hb, h.la, h.lb, h.lc, h.ld, h.ca, h.cb, h.cc, h.cd⟩
theorem IsM.mo {w : World} {R : MachR} {M : MachD} (h : IsM w R M) : IsMo w R M := ⟨h.coils, h.shells, h.limits, h.sensors, h.la, h.lb, h.lc, h.ld, h.ca, h.cb, h.cc, h.cd⟩
theorem IsM.below {w w1 : World} {R : MachR} {M : MachD} (h : IsM w R M) (hb : Below w.heap.size w w1) : IsM w1 R M :=
  ⟨h.coils.below hb, h.shells.below hb, h.limits.below hb, h.sensors.below hb, h.la, h.lb, h.lc, h.ld, h.ca, h.cb, h.cc, h.cd, h.ka, h.kb, h.kc, h.kd⟩
theorem isT_new (W : World) (cs : List Int) (t : TypeId) : IsT 1 intCells (W.alloc (.cells (cs.map (Value.int .i64)).toArray t)) (some ⟨W.heap.size, 0, none⟩) cs.length cs :=
  ⟨rfl, fun _ => ⟨_, 0, rfl, by simp, fun j x hx i v hv => by
    rcases i with _ | i
    · obtain rfl : Value.int .i64 x = v := by simpa [intCells] using hv
      obtain ⟨hj, rfl⟩ := List.getElem?_eq_some_iff.1 hx
      simp [go_sem, hj]
    · simp [intCells] at hv⟩⟩
theorem check_each {α : Type} {n : Nat} {enc : α → List Value} {w : World} {A : Option Addr} {len : Nat} {zs : List α} (h : IsT n enc w A len zs) {j : Nat} {x : α} (hx : zs[j]? = some x) : IsT n enc w A j (zs.take j) ∧ j ≤ len :=
  have hj : j < zs.length := (List.getElem?_eq_some_iff.1 hx).1
  have : j ≤ len := by rw [h.1] at hj; omega
  ⟨h.take this, this⟩
set_option maxRecDepth 100000 in
set_option maxHeartbeats 8000000 in
theorem check_open (R : MachR) (M : MachD) (w : World) (hM : IsMo w R M) :
    Calls Tryz.prog 88 #[.agg (machCells R M)] w (Ret (.int .i64 (checkC M)) w) := by
  have HE : Hid (checkC M = orL [nameC M.name, eachC coilC 12 M.coils, eachC shellC 16 M.shells, limitsC M.limits, gridC M.grid, eachC sensorC 24 M.sensors]) := Lib.hid rfl
  have H1 := Lib.hid (fun W => checkName_any M.name W)
  have H2 := Lib.hid (fun W (hb : Below w.heap.size w W) => eachCoil 137 coilC 12 R.A R.la R.ca M.coils W (hM.below hb).coils (fun h => by omega) hM.la (by have := hM.ca; omega) (fun args W => enters_of Tryz.func137 (by kernel_rfl) rfl args W)
    (fun hl9 j x W' hx hb' => checkCoil_any x R.A j R.ca (M.coils.take j) W' (check_each ((hM.below hb).coils.below hb') hx).1 (by have := (check_each hM.coils hx).2; omega)))
  have H3 := Lib.hid (fun W (hb : Below w.heap.size w W) => eachShell 139 shellC 16 R.B R.lb R.cb M.shells W (hM.below hb).shells (fun h => by omega) hM.lb (by have := hM.cb; omega) (fun args W => enters_of Tryz.func139 (by kernel_rfl) rfl args W)
    (fun hl9 j x W' hx hb' => checkShell_any x R.B j R.cb (M.shells.take j) W'))
  have H4 := Lib.hid (fun W (hb : Below w.heap.size w W) => checkLimits_any R.C R.lc R.cc M.limits W (hM.below hb).limits hM.lc (by have := hM.cc; omega))
  have H5 := Lib.hid (fun W => checkGrid_any M.grid W)
  have H6 := Lib.hid (fun W (hb : Below w.heap.size w W) => eachSensor 143 sensorC 24 R.D R.ld R.cd M.sensors W (hM.below hb).sensors (fun h => by omega) hM.ld (by have := hM.cd; omega) (fun args W => enters_of Tryz.func143 (by kernel_rfl) rfl args W)
    (fun hl9 j x W' hx hb' => checkSensor_any x R.D j R.cd (M.sensors.take j) W' (check_each ((hM.below hb).sensors.below hb') hx).1 (by have := (check_each hM.sensors hx).2; omega)))
  clear hM
  generalize checkC M = G at *
  generalize nameC M.name = e1 at *
  generalize eachC coilC 12 M.coils = e2 at *
  generalize eachC shellC 16 M.shells = e3 at *
  generalize limitsC M.limits = e4 at *
  generalize gridC M.grid = e5 at *
  generalize eachC sensorC 24 M.sensors = e6 at *
  obtain ⟨A, B, C, D, la, ca, lb, cb, lc, cc, ld, cd⟩ := R
  obtain ⟨name, coils, shells, limits, ⟨r, z, nr, nz, step⟩, sensors⟩ := M
  dsimp only at *
  have H5 := Lib.hid (show ∀ W, Calls Tryz.prog 141 #[.agg #[.int .i64 r, .int .i64 z, .int .i64 nr, .int .i64 nz, .int .i64 step]] W (Ret (.int .i64 e5) W) from H5.out)
  show Calls Tryz.prog 88 #[.agg #[.string name, .slice A la ca, .slice B lb cb, .slice C lc cc, .int .i64 r, .int .i64 z, .int .i64 nr, .int .i64 nz, .int .i64 step, .slice D ld cd]] w _
  go_enter Tryz.func88, Tryz.ntmps88
  go_upto_region 1 with fail
  have HS : Hid (∀ w' : World, Reg (w.heap.size + 1) (w.alloc (.cells #[.string name, .slice A la ca, .slice B lb cb, .slice C lc cc, .int .i64 r, .int .i64 z, .int .i64 nr, .int .i64 nz, .int .i64 step, .slice D ld cd] 29)) w' → (Reg (w.heap.size + 1) (w.alloc (.cells #[.string name, .slice A la ca, .slice B lb cb, .slice C lc cc, .int .i64 r, .int .i64 z, .int .i64 nr, .int .i64 nz, .int .i64 step, .slice D ld cd] 29)) w' ∧ w'.cell? ⟨w.heap.size, 0, none⟩ = some (.string name) ∧ w'.cell? ⟨w.heap.size, 1, none⟩ = some (.slice A la ca) ∧ w'.cell? ⟨w.heap.size, 2, none⟩ = some (.slice B lb cb) ∧ w'.cell? ⟨w.heap.size, 3, none⟩ = some (.slice C lc cc) ∧ w'.cell? ⟨w.heap.size, 4, none⟩ = some (.int .i64 r) ∧ w'.cell? ⟨w.heap.size, 5, none⟩ = some (.int .i64 z) ∧ w'.cell? ⟨w.heap.size, 6, none⟩ = some (.int .i64 nr) ∧ w'.cell? ⟨w.heap.size, 7, none⟩ = some (.int .i64 nz) ∧ w'.cell? ⟨w.heap.size, 8, none⟩ = some (.int .i64 step) ∧ w'.cell? ⟨w.heap.size, 9, none⟩ = some (.slice D ld cd))) := (fun w' h => by (have hc := h.cells; have hs := h.some; have hf := h.frozen; refine ⟨h, ?_⟩; (try simp only [World.size_alloc, World.size_setCell, size_drew, size_drewN] at hc hs hf); first | (simp (disch := omega) only [hc, hs, hf, cur_iff]; (try go_simp); done) | (simp (disch := first | omega | (simp; done)) only [hc, hs, hf, cur_iff]; (try go_simp); done) | (simp (maxDischargeDepth := 4) [hc, hs, hf, cur_iff, go_sem]; done) | (go_simp; done) | (simp (maxDischargeDepth := 4) [hc, hs, hf, cur_iff, go_sem]; go_simp))); go_region_held3 (fun w' => Reg (w.heap.size + 1) (w.alloc (.cells #[.string name, .slice A la ca, .slice B lb cb, .slice C lc cc, .int .i64 r, .int .i64 z, .int .i64 nr, .int .i64 nz, .int .i64 step, .slice D ld cd] 29)) w' ∧ w'.cell? ⟨w.heap.size, 0, none⟩ = some (.string name) ∧ w'.cell? ⟨w.heap.size, 1, none⟩ = some (.slice A la ca) ∧ w'.cell? ⟨w.heap.size, 2, none⟩ = some (.slice B lb cb) ∧ w'.cell? ⟨w.heap.size, 3, none⟩ = some (.slice C lc cc) ∧ w'.cell? ⟨w.heap.size, 4, none⟩ = some (.int .i64 r) ∧ w'.cell? ⟨w.heap.size, 5, none⟩ = some (.int .i64 z) ∧ w'.cell? ⟨w.heap.size, 6, none⟩ = some (.int .i64 nr) ∧ w'.cell? ⟨w.heap.size, 7, none⟩ = some (.int .i64 nz) ∧ w'.cell? ⟨w.heap.size, 8, none⟩ = some (.int .i64 step) ∧ w'.cell? ⟨w.heap.size, 9, none⟩ = some (.slice D ld cd)) (exact HS.out _ (by (repeat first | with_reducible exact Reg.refl _ _ | with_reducible exact (‹Reg _ _ _ ∧ _›).1 | with_reducible refine Reg.alloc ?_ _ | with_reducible refine Reg.drew ?_ | (with_reducible apply Reg.call; rotate_left; with_reducible assumption)))) (first | (go_at_call 135; refine (H1.out _).mono ?_; rintro e w1 ⟨rfl, rfl⟩) | (go_at_call 136; refine (H2.out _ (Reg.out (‹Reg _ _ _ ∧ _›).1 (by (repeat first | with_reducible exact Below.refl _ _ | (with_reducible refine Below.alloc ?_ ?_ _; rotate_left; exact (by omega)))) (by omega))).mono ?_; rintro e w1 ⟨rfl, hb⟩; (with_reducible have hk := Nat.lt_of_lt_of_le (size_alloc_lt _ _) hb.size); (try simp only [World.size_alloc, World.size_setCell, size_drew, size_drewN] at hk); obtain ⟨hc, hf⟩ := bcell hb; have hs := hb.size; (try simp only [World.size_alloc, World.size_setCell, size_drew, size_drewN] at hs)) | (go_at_call 138; refine (H3.out _ (Reg.out (‹Reg _ _ _ ∧ _›).1 (by (repeat first | with_reducible exact Below.refl _ _ | (with_reducible refine Below.alloc ?_ ?_ _; rotate_left; exact (by omega)))) (by omega))).mono ?_; rintro e w1 ⟨rfl, hb⟩; (with_reducible have hk := Nat.lt_of_lt_of_le hk hb.size); (try simp only [World.size_alloc, World.size_setCell, size_drew, size_drewN] at hk); obtain ⟨hc, hf⟩ := bcell hb; have hs := hb.size; (try simp only [World.size_alloc, World.size_setCell, size_drew, size_drewN] at hs)) | (go_at_call 140; refine (H4.out _ (Reg.out (‹Reg _ _ _ ∧ _›).1 (by (repeat first | with_reducible exact Below.refl _ _ | (with_reducible refine Below.alloc ?_ ?_ _; rotate_left; exact (by omega)))) (by omega))).mono ?_; rintro e w1 ⟨rfl, hb⟩; (with_reducible have hk := Nat.lt_of_lt_of_le hk hb.size); (try simp only [World.size_alloc, World.size_setCell, size_drew, size_drewN] at hk); obtain ⟨hc, hf⟩ := bcell hb; have hs := hb.size; (try simp only [World.size_alloc, World.size_setCell, size_drew, size_drewN] at hs)) | (go_at_call 141; refine (H5.out _).mono ?_; rintro e w1 ⟨rfl, hb⟩; (with_reducible have hk := Nat.lt_of_lt_of_le hk hb.size); (try simp only [World.size_alloc, World.size_setCell, size_drew, size_drewN] at hk); obtain ⟨hc, hf⟩ := bcell hb; have hs := hb.size; (try simp only [World.size_alloc, World.size_setCell, size_drew, size_drewN] at hs)) | (go_at_call 142; refine (H6.out _ (Reg.out (‹Reg _ _ _ ∧ _›).1 (by (repeat first | with_reducible exact Below.refl _ _ | (with_reducible refine Below.alloc ?_ ?_ _; rotate_left; exact (by omega)))) (by omega))).mono ?_; rintro e w1 ⟨rfl, hb⟩; (with_reducible have hk := Nat.lt_of_lt_of_le hk hb.size); (try simp only [World.size_alloc, World.size_setCell, size_drew, size_drewN] at hk); obtain ⟨hc, hf⟩ := bcell hb; have hs := hb.size; (try simp only [World.size_alloc, World.size_setCell, size_drew, size_drewN] at hs)) | (go_at_call 134; refine (or_any _ 6 6 [e1, e2, e3, e4, e5, e6] _ (isT_new _ [e1, e2, e3, e4, e5, e6] _) (by omega)).mono ?_; rintro e w1 ⟨rfl, hb⟩; (with_reducible have hk := Nat.lt_of_lt_of_le (size_alloc_lt _ _) hb.size); (try simp only [World.size_alloc, World.size_setCell, size_drew, size_drewN] at hk); obtain ⟨hc, hf⟩ := bcell hb; have hs := hb.size; (try simp only [World.size_alloc, World.size_setCell, size_drew, size_drewN] at hs)))
  all_goals go_wp2_with fail
  all_goals go_ret
  all_goals exact ⟨by rw [HE.out]; rfl, (Reg.out (‹Reg _ _ _ ∧ _›).1 (by (repeat first | with_reducible exact Below.refl _ _ | (with_reducible refine Below.alloc ?_ ?_ _; rotate_left; exact (by omega)))) (by omega))⟩
theorem check_any (R : MachR) (M : MachD) (w : World) (hM : IsM w R M) : Calls Tryz.prog 88 #[.agg (machCells R M)] w (Ret (.int .i64 (checkC M)) w) := check_open R M w hM.mo
end
section
open Go.RowKit
set_option maxHeartbeats 2000000 in
theorem indexint2 (k : Nat) (c0 : Nat) (c1 : Nat) (p : Int → Bool) (A : Option Addr) (len cap : Nat) (zs : List Int) (w : World) (hI : IsT 1 intCells w A len zs) (hl : len ≤ 1000000000000000)
    (hE : ∀ (args : Array Value) (W : World), (callFunc k args).run Tryz.prog W = .ok (.enter k args) W)
    (hk : ∀ (x : Int) (W : World), x ∈ zs → Below w.heap.size w W → Calls Tryz.prog k #[intV x, .pointer (some ⟨c0, 0, none⟩), .pointer (some ⟨c1, 0, none⟩)] W (Ret (.bool (p x)) W)) :
    Calls Tryz.prog 172 #[.slice A len cap, .func (.func k) #[] #[.pointer (some ⟨c0, 0, none⟩), .pointer (some ⟨c1, 0, none⟩)]] w (Ret (.int .i64 (idxL p zs)) w) := by
  have HI := Lib.hid hI
  have HK := Lib.hid hk
  have HG : Hid (idxL p zs = idxGo p zs 0) := Lib.hid rfl
  generalize idxL p zs = G at *
  clear hI hk
  go_enter Tryz.func172, Tryz.ntmps172
  go_wp2_with fail
  go_loopw [5, 8] (fun _ i wr => ∃ j : Nat, j ≤ len ∧ i = .int .i64 j ∧ Hid (idxGo p (zs.drop j) j = G) ∧ Below w.heap.size w wr) (fun _ i _ => len - (intOf i).toNat)
  case atStart => exact ⟨0, Nat.zero_le _, rfl, Lib.hid HG.out.symm, Below.refl _ _⟩
  case round =>
    obtain ⟨j, hj, rfl, hG, hB⟩ := hrel
    by_cases hlt : j < len
    · obtain ⟨hzl, hcl⟩ := HI.out.below hB
      obtain ⟨b, o, rfl, hb0, hcl⟩ := hcl (by omega)
      obtain ⟨x, hx⟩ : ∃ x, zs[j]? = some x := ⟨_, List.getElem?_eq_getElem (by omega)⟩
      have HM := Lib.hid (List.mem_of_getElem? hx)
      have HS := Lib.hid (idxGo_drop p hx (j : Int))
      have x0 : wr.cell? ⟨b, o + j, none⟩ = some (.int .i64 x) := by have h := hcl j x hx 0 _ rfl; simpa using h
      have hsz := hB.size
      have HC := Lib.hid (HK.out x)
      clear hcl hx hzl
      cases hp : p x
      · have HN : Hid (idxGo p (zs.drop (j + 1)) ((j + 1 : Nat) : Int) = G) := Lib.hid (by rw [← hG.out, HS.out, hp]; rfl)
        have HC := Lib.hid (show ∀ W, Below w.heap.size w W → Calls Tryz.prog k #[intV x, .pointer (some ⟨c0, 0, none⟩), .pointer (some ⟨c1, 0, none⟩)] W (Ret (.bool false) W) from fun W h => by have := HC.out W HM.out h; rwa [hp] at this)
        clear hp
        go_wp2_with ((with_reducible show Calls _ k _ _ _); refine (HC.out _ (by (repeat with_reducible assumption))).mono ?_; rintro e w1 ⟨rfl, hb⟩; have hB1 : Below w.heap.size w w1 := Below.trans (by (repeat with_reducible assumption)) (hb.mono (by omega)))
        go_roundw
        case rel => exact ⟨j + 1, by omega, by go_num, HN, by (repeat with_reducible assumption)⟩
        case measure => simp [intOf]; omega
      · have HN : Hid ((j : Int) = G) := Lib.hid (by rw [← hG.out, HS.out, hp]; rfl)
        have HC := Lib.hid (show ∀ W, Below w.heap.size w W → Calls Tryz.prog k #[intV x, .pointer (some ⟨c0, 0, none⟩), .pointer (some ⟨c1, 0, none⟩)] W (Ret (.bool true) W) from fun W h => by have := HC.out W HM.out h; rwa [hp] at this)
        clear hp
        go_wp2_with ((with_reducible show Calls _ k _ _ _); refine (HC.out _ (by (repeat with_reducible assumption))).mono ?_; rintro e w1 ⟨rfl, hb⟩; have hB1 : Below w.heap.size w w1 := Below.trans (by (repeat with_reducible assumption)) (hb.mono (by omega)))
        go_ret
        exact ⟨by rw [← HN.out]; rfl, by (repeat with_reducible assumption)⟩
    · have HN : Hid ((-1 : Int) = G) := Lib.hid (by rw [← hG.out, List.drop_of_length_le (by rw [HI.out.1]; omega)]; rfl)
      go_wp2
      go_ret
      exact ⟨by rw [← HN.out]; rfl, hB⟩
set_option maxHeartbeats 1000000 in
theorem containsint2 (k : Nat) (c0 : Nat) (c1 : Nat) (p : Int → Bool) (A : Option Addr) (len cap : Nat) (zs : List Int) (w : World) (hI : IsT 1 intCells w A len zs) (hl : len ≤ 1000000000000000)
    (hE : ∀ (args : Array Value) (W : World), (callFunc k args).run Tryz.prog W = .ok (.enter k args) W)
    (hk : ∀ (x : Int) (W : World), x ∈ zs → Below w.heap.size w W → Calls Tryz.prog k #[intV x, .pointer (some ⟨c0, 0, none⟩), .pointer (some ⟨c1, 0, none⟩)] W (Ret (.bool (p x)) W)) :
    Calls Tryz.prog 144 #[.slice A len cap, .func (.func k) #[] #[.pointer (some ⟨c0, 0, none⟩), .pointer (some ⟨c1, 0, none⟩)]] w (Ret (.bool (zs.any p)) w) := by
  have HI := Lib.hid (indexint2 k c0 c1 p A len cap zs w hI hl hE hk)
  have HA := Lib.hid (idxL_nonneg p zs)
  obtain ⟨b1, b2⟩ := idxL_bd p zs
  rw [hI.1] at b2
  clear hI hE hk
  generalize idxL p zs = G at *
  go_enter Tryz.func144, Tryz.ntmps144
  go_wp2_with (go_at_call 172; refine HI.out.mono ?_; rintro e w1 ⟨rfl, hb⟩)
  go_ret
  exact ⟨by rw [← HA.out]; rfl, hb⟩
end
section
open Go.RowKit Go.Shelf
set_option maxHeartbeats 1000000 in
theorem allWithin1_any (x a b : Int) (c0 c1 : Nat) (w : World) (h0 : w.cell? ⟨c0, 0, none⟩ = some (.int .i64 a)) (h1 : w.cell? ⟨c1, 0, none⟩ = some (.int .i64 b)) :
    Calls Tryz.prog 145 #[intV x, .pointer (some ⟨c0, 0, none⟩), .pointer (some ⟨c1, 0, none⟩)] w (Ret (.bool (!wthn x a b)) w) := by
  go_enter Tryz.func145, Tryz.ntmps145
  go_wp2_with (go_at_call 146; refine (mwithin_any _ _ _ _).mono ?_; rintro e w1 ⟨rfl, rfl⟩)
  go_ret
  exact ⟨rfl, by (repeat with_reducible exact Below.refl _ _)⟩
def allW (l : List Int) (a b : Int) : Bool := l.all fun x => wthn x a b
theorem not_any_allW (l : List Int) (a b : Int) : (!(l.any fun x => !wthn x a b)) = allW l a b := by
  unfold allW
  induction l with
  | nil => rfl
  | cons x r ih => simp only [List.any_cons, List.all_cons, Bool.not_or, Bool.not_not, ih]
set_option maxHeartbeats 1000000 in
theorem allWithin_any (A : Option Addr) (len cap : Nat) (zs : List Int) (a b : Int) (w : World) (hI : IsT 1 intCells w A len zs) (hl : len ≤ 1000000000000000) :
    Calls Tryz.prog 89 #[.slice A len cap, .int .i64 a, .int .i64 b] w (Ret (.bool (allW zs a b)) w) := by
  have HE := Lib.hid (not_any_allW zs a b)
  have HC := Lib.hid (fun W (hb : Below w.heap.size w W) (h0 : w.heap.size + 1 < W.heap.size) (h1 : W.cell? ⟨w.heap.size, 0, none⟩ = some (.int .i64 a)) (h2 : W.cell? ⟨w.heap.size + 1, 0, none⟩ = some (.int .i64 b)) =>
    containsint2 145 w.heap.size (w.heap.size + 1) (fun x => !wthn x a b) A len cap zs W (hI.below hb) hl (fun args W => enters_of Tryz.func145 (by kernel_rfl) rfl args W)
      (fun x W' _ hB => allWithin1_any x a b _ _ W' ((hB.cell (p := ⟨w.heap.size, 0, none⟩) (by show w.heap.size < _; omega)).trans h1) ((hB.cell (p := ⟨w.heap.size + 1, 0, none⟩) (by show w.heap.size + 1 < _; omega)).trans h2)))
  clear hI
  generalize allW zs a b = G at *
  generalize (zs.any fun x => !wthn x a b) = K at *
  go_enter Tryz.func89, Tryz.ntmps89
  go_wp2_with (go_at_call 144; refine (HC.out _ (by (repeat first | with_reducible exact Below.refl _ _ | (with_reducible refine Below.alloc ?_ ?_ _; rotate_left; exact (by first | omega | (simp; done))))) (by ((try simp only [World.size_alloc, World.size_setCell, size_drew, size_drewN]); omega)) (by go_simp) (by go_simp)).mono ?_; rintro e w1 ⟨rfl, hb⟩)
  go_ret
  exact ⟨by rw [← HE.out]; rfl, Below.trans (by (repeat first | with_reducible exact Below.refl _ _ | (with_reducible refine Below.alloc ?_ ?_ _; rotate_left; exact (by first | omega | (simp; done))))) (hb.mono (by ((try simp only [World.size_alloc, World.size_setCell, size_drew, size_drewN]); omega)))⟩
def tot (s : Int) : List Int → Int
  | [] => s
  | x :: r => tot (wrap64 (s + x)) r
theorem tot_drop {l : List Int} {k : Nat} {x : Int} (h : l[k]? = some x) (s : Int) : tot s (l.drop k) = tot (wrap64 (s + x)) (l.drop (k + 1)) := by
  obtain ⟨hk, rfl⟩ := List.getElem?_eq_some_iff.1 h
  rw [List.drop_eq_getElem_cons hk]; rfl
structure CurR where
  (A B C : Option Addr) (la ca lb cb lc cc : Nat)
structure CurD where
  (coils shells plasma : List Int)
abbrev CurR.v (R : CurR) : Value := .agg #[.slice R.A R.la R.ca, .slice R.B R.lb R.cb, .slice R.C R.lc R.cc]
structure IsC (w : World) (R : CurR) (C : CurD) : Prop where
  coils : IsT 1 intCells w R.A R.la C.coils
  shells : IsT 1 intCells w R.B R.lb C.shells
  plasma : IsT 1 intCells w R.C R.lc C.plasma
  la : R.la ≤ R.ca
  lb : R.lb ≤ R.cb
  lc : R.lc ≤ R.cc
  ca : R.ca ≤ 9223372036854775807
  cb : R.cb ≤ 9223372036854775807
  cc : R.cc ≤ 9223372036854775807
  ka : R.la ≤ 1000000000000000
  kb : R.lb ≤ 1000000000000000
  kc : R.lc ≤ 1000000000000000
theorem IsC.below {w w1 : World} {R : CurR} {C : CurD} (h : IsC w R C) (hb : Below w.heap.size w w1) : IsC w1 R C :=
  ⟨h.coils.below hb, h.shells.below hb, h.plasma.below hb, h.la, h.lb, h.lc, h.ca, h.cb, h.cc, h.ka, h.kb, h.kc⟩
set_option maxHeartbeats 1000000 in
theorem total_any (A B C : Option Addr) (la ca lb cb len cap : Nat) (zs : List Int) (w : World) (hI : IsT 1 intCells w C len zs) (hl : len ≤ 1000000000000000) :
    Calls Tryz.prog 91 #[.agg #[.slice A la ca, .slice B lb cb, .slice C len cap]] w (Ret (.int .i64 (tot 0 zs)) w) := by
  have HI := Lib.hid hI
  obtain ⟨G, hG0⟩ : ∃ G, tot 0 zs = G := ⟨_, rfl⟩
  have HG := Lib.hid hG0
  rw [hG0]
  clear hG0 hI
  go_enter Tryz.func91, Tryz.ntmps91
  go_wp2_with fail
  go_loopw [3, 5, 9] (fun s _ i wr => ∃ (j : Nat) (t : Int), j ≤ len ∧ i = .int .i64 j ∧ s = .int .i64 t ∧ Hid (tot t (zs.drop j) = G) ∧ Below w.heap.size w wr) (fun _ _ i _ => len - (intOf i).toNat)
  case atStart => exact ⟨0, 0, Nat.zero_le _, rfl, rfl, Lib.hid HG.out, by (repeat first | with_reducible exact Below.refl _ _ | (with_reducible refine Below.alloc ?_ ?_ _; rotate_left; exact (by omega)))⟩
  case round =>
    obtain ⟨j, t, hj, rfl, rfl, hG, hB⟩ := hrel
    by_cases hlt : j < len
    · obtain ⟨hzl, hcl⟩ := HI.out.below hB
      obtain ⟨b, o, rfl, hb0, hcl⟩ := hcl (by omega)
      obtain ⟨x, hx⟩ : ∃ x, zs[j]? = some x := ⟨_, List.getElem?_eq_getElem (by omega)⟩
      have HN := Lib.hid ((tot_drop hx t).symm.trans hG.out)
      have x0 : wr.cell? ⟨b, o + j, none⟩ = some (.int .i64 x) := by have h := hcl j x hx 0 _ rfl; simpa using h
      clear hcl hx hzl
      go_wp2_with fail
      go_roundw
      case rel => exact ⟨j + 1, _, by omega, by go_num, rfl, HN, hB⟩
      case measure => simp [intOf]; omega
    · have HN : Hid (t = G) := Lib.hid (by rw [← hG.out, List.drop_of_length_le (by rw [HI.out.1]; omega)]; rfl)
      go_wp2
      go_ret
      exact ⟨by rw [← HN.out]; rfl, hB⟩
def validC (M : MachD) (C : CurD) : Bool :=
  decide (checkC M = 0) && (decide (C.coils.length = M.coils.length) && (allW C.coils (-1000000) 1000000 && (decide (C.shells.length = M.shells.length) && (allW C.shells (-1000000) 1000000 &&
    (decide ((C.plasma.length : Int) = M.grid.nr * M.grid.nz) && (allW C.plasma 0 1000000 && decide (tot 0 C.plasma ≤ 1000000)))))))
end
end Go.Proofs.YtogcjgjhmlifgaaGreat
