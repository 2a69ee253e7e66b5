import Derived.Test.YtcdhanfjcnfjjaaKAA
import Derived.Test.YtcdhanfjcnfjjaaKAN
import Derived.Test.YtcdhanfjcnfjjaaKAP
import Derived.Deep.RegionHeld3
import Derived.Deep.DeepCutAuto
import Derived.Deep.QuietTactic
import Derived.BigQuiet
import Derived.IntWalk
section
/- Package control: proved, over this seat's translation (written by mk_cte.py). -/
namespace Go.Proofs.Ytcdhanfjcnfjjaa
set_option linter.unusedVariables false
set_option linter.unusedSimpArgs false
open Go.RowKit Go.Shelf

set_option maxRecDepth 100000 in
set_option maxHeartbeats 8000000 in
theorem cproved_any (gr gz : Int) (s : ShapeD) (w : World) :
    Calls Try.prog 20 #[.agg #[.int .i64 gr, .int .i64 gz], s.v] w (Ret (.tuple #[.int .i64 (provedL (errL gr gz s).1 (errL gr gz s).2.1), .int .i64 (provedL (errL gr gz s).2.2.1 (errL gr gz s).2.2.2.1), .int .i64 (errL gr gz s).2.2.2.2]) w) := by
  have HE0 := Lib.hid (fun W => errors_any gr gz s W)
  generalize errL gr gz s = U at *
  obtain ⟨p0, q0, p1, q1, E⟩ := U
  dsimp only at *
  obtain ⟨a0, b0, a1, b1, a2, b2, a3, b3, a4, b4, a5, b5, a6, b6, a7, b7⟩ := s
  (try dsimp only at *)
  have HE := Lib.hid (show ∀ W, Calls Try.prog 12 #[.agg #[.int .i64 gr, .int .i64 gz], .agg #[.int .i64 a0, .int .i64 b0, .int .i64 a1, .int .i64 b1, .int .i64 a2, .int .i64 b2, .int .i64 a3, .int .i64 b3, .int .i64 a4, .int .i64 b4, .int .i64 a5, .int .i64 b5, .int .i64 a6, .int .i64 b6, .int .i64 a7, .int .i64 b7]] W (Ret (.tuple #[.agg #[.int .i64 p0, .int .i64 q0], .agg #[.int .i64 p1, .int .i64 q1], .int .i64 E]) W) from HE0.out)
  have HP : Hid (∀ (a b : Int) W, Calls Try.prog 39 #[Sp a b] W (Ret (.int .i64 (provedL a b)) W)) := Lib.hid (fun a b W => proved_any a b W)
  clear HE0
  show Calls Try.prog 20 #[.agg #[.int .i64 gr, .int .i64 gz], .agg #[.int .i64 a0, .int .i64 b0, .int .i64 a1, .int .i64 b1, .int .i64 a2, .int .i64 b2, .int .i64 a3, .int .i64 b3, .int .i64 a4, .int .i64 b4, .int .i64 a5, .int .i64 b5, .int .i64 a6, .int .i64 b6, .int .i64 a7, .int .i64 b7]] w _
  go_enter Try.func20, Try.ntmps20
  go_upto_region 1 with (fail)
  have Fg : Hid (RowL (w.heap.size) [.int .i64 gr, .int .i64 gz] ((w.alloc (.cells #[.int .i64 gr, .int .i64 gz] 36)).alloc (.cells #[.int .i64 a0, .int .i64 b0, .int .i64 a1, .int .i64 b1, .int .i64 a2, .int .i64 b2, .int .i64 a3, .int .i64 b3, .int .i64 a4, .int .i64 b4, .int .i64 a5, .int .i64 b5, .int .i64 a6, .int .i64 b6, .int .i64 a7, .int .i64 b7] 40))) := Lib.hid (by have h := RowL.new w #[.int .i64 gr, .int .i64 gz] 36; (try simp only [World.size_alloc] at h); exact (h.alloc _))
  have Fs : Hid (RowL (w.heap.size + 1) [.int .i64 a0, .int .i64 b0, .int .i64 a1, .int .i64 b1, .int .i64 a2, .int .i64 b2, .int .i64 a3, .int .i64 b3, .int .i64 a4, .int .i64 b4, .int .i64 a5, .int .i64 b5, .int .i64 a6, .int .i64 b6, .int .i64 a7, .int .i64 b7] ((w.alloc (.cells #[.int .i64 gr, .int .i64 gz] 36)).alloc (.cells #[.int .i64 a0, .int .i64 b0, .int .i64 a1, .int .i64 b1, .int .i64 a2, .int .i64 b2, .int .i64 a3, .int .i64 b3, .int .i64 a4, .int .i64 b4, .int .i64 a5, .int .i64 b5, .int .i64 a6, .int .i64 b6, .int .i64 a7, .int .i64 b7] 40))) := Lib.hid (by have h := RowL.new (w.alloc (.cells #[.int .i64 gr, .int .i64 gz] 36)) #[.int .i64 a0, .int .i64 b0, .int .i64 a1, .int .i64 b1, .int .i64 a2, .int .i64 b2, .int .i64 a3, .int .i64 b3, .int .i64 a4, .int .i64 b4, .int .i64 a5, .int .i64 b5, .int .i64 a6, .int .i64 b6, .int .i64 a7, .int .i64 b7] 40; (try simp only [World.size_alloc] at h); exact h)
  have hB0 : Below w.heap.size w ((w.alloc (.cells #[.int .i64 gr, .int .i64 gz] 36)).alloc (.cells #[.int .i64 a0, .int .i64 b0, .int .i64 a1, .int .i64 b1, .int .i64 a2, .int .i64 b2, .int .i64 a3, .int .i64 b3, .int .i64 a4, .int .i64 b4, .int .i64 a5, .int .i64 b5, .int .i64 a6, .int .i64 b6, .int .i64 a7, .int .i64 b7] 40)) := by (with_reducible repeat first | exact Below.refl _ _ | assumption | ((first | refine Below.setCell ?_ ?_ _ | refine Below.alloc ?_ ?_ _); rotate_left; exact (by first | omega | (simp; done) | (simp; omega))) | refine Below.drew ?_ | refine Below_drewN ?_ _)
  have sW0 : w.heap.size + 1 < ((w.alloc (.cells #[.int .i64 gr, .int .i64 gz] 36)).alloc (.cells #[.int .i64 a0, .int .i64 b0, .int .i64 a1, .int .i64 b1, .int .i64 a2, .int .i64 b2, .int .i64 a3, .int .i64 b3, .int .i64 a4, .int .i64 b4, .int .i64 a5, .int .i64 b5, .int .i64 a6, .int .i64 b6, .int .i64 a7, .int .i64 b7] 40)).heap.size := by simp only [World.size_alloc]; omega
  obtain ⟨W0, hW0⟩ : ∃ W, ((w.alloc (.cells #[.int .i64 gr, .int .i64 gz] 36)).alloc (.cells #[.int .i64 a0, .int .i64 b0, .int .i64 a1, .int .i64 b1, .int .i64 a2, .int .i64 b2, .int .i64 a3, .int .i64 b3, .int .i64 a4, .int .i64 b4, .int .i64 a5, .int .i64 b5, .int .i64 a6, .int .i64 b6, .int .i64 a7, .int .i64 b7] 40)) = W := ⟨_, rfl⟩
  rw [hW0] at Fg Fs hB0 sW0 ⊢
  clear hW0
  have g0 := Fg.out.cell 0 (.int .i64 gr) rfl
  have g1 := Fg.out.cell 1 (.int .i64 gz) rfl
  have s0 := Fs.out.cell 0 (.int .i64 a0) rfl
  have s1 := Fs.out.cell 1 (.int .i64 b0) rfl
  have s2 := Fs.out.cell 2 (.int .i64 a1) rfl
  have s3 := Fs.out.cell 3 (.int .i64 b1) rfl
  have s4 := Fs.out.cell 4 (.int .i64 a2) rfl
  have s5 := Fs.out.cell 5 (.int .i64 b2) rfl
  have s6 := Fs.out.cell 6 (.int .i64 a3) rfl
  have s7 := Fs.out.cell 7 (.int .i64 b3) rfl
  have s8 := Fs.out.cell 8 (.int .i64 a4) rfl
  have s9 := Fs.out.cell 9 (.int .i64 b4) rfl
  have s10 := Fs.out.cell 10 (.int .i64 a5) rfl
  have s11 := Fs.out.cell 11 (.int .i64 b5) rfl
  have s12 := Fs.out.cell 12 (.int .i64 a6) rfl
  have s13 := Fs.out.cell 13 (.int .i64 b6) rfl
  have s14 := Fs.out.cell 14 (.int .i64 a7) rfl
  have s15 := Fs.out.cell 15 (.int .i64 b7) rfl
  go_wp2_with fail
  refine (HE.out _).mono ?_
  rintro e w1 ⟨rfl, hb⟩
  have hBw1 := hB0.trans (hb.mono hB0.size)
  clear hb HE g0 g1 s0 s1 s2 s3 s4 s5 s6 s7 s8 s9 s10 s11 s12 s13 s14 s15 Fg Fs
  go_upto_region 2 with (fail)
  have Fx : Hid (RowL (w1.heap.size) [.int .i64 p0, .int .i64 q0] ((w1.alloc (.cells #[.int .i64 p0, .int .i64 q0] 38)).alloc (.cells #[.int .i64 p1, .int .i64 q1] 38))) := Lib.hid (by have h := RowL.new w1 #[.int .i64 p0, .int .i64 q0] 38; (try simp only [World.size_alloc] at h); exact (h.alloc _))
  have Fy : Hid (RowL (w1.heap.size + 1) [.int .i64 p1, .int .i64 q1] ((w1.alloc (.cells #[.int .i64 p0, .int .i64 q0] 38)).alloc (.cells #[.int .i64 p1, .int .i64 q1] 38))) := Lib.hid (by have h := RowL.new (w1.alloc (.cells #[.int .i64 p0, .int .i64 q0] 38)) #[.int .i64 p1, .int .i64 q1] 38; (try simp only [World.size_alloc] at h); exact h)
  have hb2 : Below w1.heap.size w1 ((w1.alloc (.cells #[.int .i64 p0, .int .i64 q0] 38)).alloc (.cells #[.int .i64 p1, .int .i64 q1] 38)) := by (with_reducible repeat first | exact Below.refl _ _ | assumption | ((first | refine Below.setCell ?_ ?_ _ | refine Below.alloc ?_ ?_ _); rotate_left; exact (by first | omega | (simp; done) | (simp; omega))) | refine Below.drew ?_ | refine Below_drewN ?_ _)
  have sW2 : w1.heap.size + 1 < ((w1.alloc (.cells #[.int .i64 p0, .int .i64 q0] 38)).alloc (.cells #[.int .i64 p1, .int .i64 q1] 38)).heap.size := by simp only [World.size_alloc]; omega
  obtain ⟨W2, hW2⟩ : ∃ W, ((w1.alloc (.cells #[.int .i64 p0, .int .i64 q0] 38)).alloc (.cells #[.int .i64 p1, .int .i64 q1] 38)) = W := ⟨_, rfl⟩
  rw [hW2] at Fx Fy hb2 sW2 ⊢
  clear hW2
  have hB2 := hBw1.trans (hb2.mono hBw1.size)
  have x0 := Fx.out.cell 0 (.int .i64 p0) rfl
  have x1 := Fx.out.cell 1 (.int .i64 q0) rfl
  have y0 := Fy.out.cell 0 (.int .i64 p1) rfl
  have y1 := Fy.out.cell 1 (.int .i64 q1) rfl
  go_wp2_with fail
  have HS : Hid (∀ w' : World, Reg (W2.heap.size) (W2) w' → (Reg (W2.heap.size) (W2) w' ∧ w'.cell? ⟨w1.heap.size, 0, none⟩ = some (.int .i64 p0) ∧ w'.cell? ⟨w1.heap.size, 1, none⟩ = some (.int .i64 q0) ∧ w'.cell? ⟨w1.heap.size + 1, 0, none⟩ = some (.int .i64 p1) ∧ w'.cell? ⟨w1.heap.size + 1, 1, none⟩ = some (.int .i64 q1))) := (fun w' h => by (have hc := h.cells; have hs := h.some; have hf := h.frozen; refine ⟨h, ?_⟩; (try simp only [World.size_alloc, World.size_setCell, size_drew, size_drewN] at hc hs hf); first | (simp (disch := omega) only [hc, hs, hf, cur_iff]; (try go_simp); done) | (simp (disch := first | omega | (simp; done)) only [hc, hs, hf, cur_iff]; (try go_simp); done) | (simp (maxDischargeDepth := 4) [hc, hs, hf, cur_iff, go_sem]; done) | (go_simp; done) | (simp (maxDischargeDepth := 4) [hc, hs, hf, cur_iff, go_sem]; go_simp))); go_region_held3 (fun w' => Reg (W2.heap.size) (W2) w' ∧ w'.cell? ⟨w1.heap.size, 0, none⟩ = some (.int .i64 p0) ∧ w'.cell? ⟨w1.heap.size, 1, none⟩ = some (.int .i64 q0) ∧ w'.cell? ⟨w1.heap.size + 1, 0, none⟩ = some (.int .i64 p1) ∧ w'.cell? ⟨w1.heap.size + 1, 1, none⟩ = some (.int .i64 q1)) (exact HS.out _ (by (repeat first | with_reducible exact Reg.refl _ _ | with_reducible exact Reg.drewN2 _ _ _ _ | with_reducible exact (‹Reg _ _ _ ∧ _›).1 | (with_reducible refine Reg.setCell ?_ ?_ _; rotate_left; exact (by first | omega | ((try simp only [World.size_alloc, World.size_setCell, size_drew, size_drewN]); omega) | (simp; done) | (simp; omega))) | with_reducible refine Reg.alloc ?_ _ | with_reducible refine Reg.drew ?_ | with_reducible refine Reg.drewN ?_ _ | (with_reducible apply Reg.call; rotate_left; with_reducible assumption)))) (first | (go_at_call 39; refine (HP.out _ _ _).mono ?_; rintro e w9 ⟨rfl, hb⟩; (first | (with_reducible have hk := Nat.lt_of_lt_of_le (size_alloc_lt _ _) hb.size) | (with_reducible have hk := Nat.lt_of_lt_of_le (size_alloc_drew_lt _ _) hb.size) | (with_reducible have hk := Nat.lt_of_lt_of_le hk hb.size) | skip); (try simp only [World.size_alloc, World.size_setCell, size_drew, size_drewN] at hk); obtain ⟨hc, hf⟩ := bcell hb; have hs := hb.size; (try simp only [World.size_alloc, World.size_setCell, size_drew, size_drewN] at hs)))
  all_goals go_wp2_with fail
  all_goals go_ret3
  all_goals (have hs9 := hB2.size; exact ⟨rfl, (Reg.out (‹Reg _ _ _ ∧ _›).1 (by (with_reducible repeat first | exact Below.refl _ _ | assumption | ((first | refine Below.setCell ?_ ?_ _ | refine Below.alloc ?_ ?_ _); rotate_left; exact (by first | omega | (simp; done) | (simp; omega))) | refine Below.drew ?_ | refine Below_drewN ?_ _)) (by first | omega | (simp; done) | (simp; omega)))⟩)

end Go.Proofs.Ytcdhanfjcnfjjaa
end
section
/- slices.IndexFunc and ContainsFunc over []int, over this seat's translation (written by mk_mac.py). -/
namespace Go.Proofs.Ytcdhanfjcnfjjaa
set_option linter.unusedVariables false
set_option linter.unusedSimpArgs false
open Go.RowKit

set_option maxHeartbeats 2000000 in
theorem indexint0 (k : Nat) (p : Int → Bool) (A : Option Addr) (len cap : Nat) (zs : List Int) (w : World) (hI : IsT 1 intCells w A len zs) (hl : len ≤ 1000000000000000)
    (hE : ∀ (args : Array Value) (W : World), (callFunc k args).run Try.prog W = .ok (.enter k args) W)
    (hk : ∀ (x : Int) (W : World), x ∈ zs → Below w.heap.size w W → Calls Try.prog k #[intV x] W (Ret (.bool (p x)) W)) :
    Calls Try.prog 82 #[.slice A len cap, .func (.func k) #[] #[]] w (Ret (.int .i64 (idxL p zs)) w) := by
  have HI := Lib.hid hI
  have HK := Lib.hid hk
  have HG : Hid (idxL p zs = idxGo p zs 0) := Lib.hid rfl
  generalize idxL p zs = G at *
  clear hI hk
  go_enter Try.func82, Try.ntmps82
  go_wp2_with fail
  go_loopw [5, 8] (fun _ i wr => ∃ j : Nat, j ≤ len ∧ i = .int .i64 j ∧ Hid (idxGo p (zs.drop j) j = G) ∧ Below w.heap.size w wr) (fun _ i _ => len - (intOf i).toNat)
  case atStart => exact ⟨0, Nat.zero_le _, rfl, Lib.hid HG.out.symm, Below.refl _ _⟩
  case round =>
    obtain ⟨j, hj, rfl, hG, hB⟩ := hrel
    by_cases hlt : j < len
    · obtain ⟨hzl, hcl⟩ := HI.out.below hB
      obtain ⟨b, o, rfl, hb0, hcl⟩ := hcl (by omega)
      obtain ⟨x, hx⟩ : ∃ x, zs[j]? = some x := ⟨_, List.getElem?_eq_getElem (by omega)⟩
      have HM := Lib.hid (List.mem_of_getElem? hx)
      have HS := Lib.hid (idxGo_drop p hx (j : Int))
      have x0 : wr.cell? ⟨b, o + j, none⟩ = some (.int .i64 x) := by have h := hcl j x hx 0 _ rfl; simpa using h
      have hsz := hB.size
      have HC := Lib.hid (HK.out x)
      clear hcl hx hzl
      cases hp : p x
      · have HN : Hid (idxGo p (zs.drop (j + 1)) ((j + 1 : Nat) : Int) = G) := Lib.hid (by rw [← hG.out, HS.out, hp]; rfl)
        have HC := Lib.hid (show ∀ W, Below w.heap.size w W → Calls Try.prog k #[intV x] W (Ret (.bool false) W) from fun W h => by have := HC.out W HM.out h; rwa [hp] at this)
        clear hp
        go_wp2_with ((with_reducible show Calls _ k _ _ _); refine (HC.out _ (by (with_reducible repeat first | exact Below.refl _ _ | assumption | ((first | refine Below.setCell ?_ ?_ _ | refine Below.alloc ?_ ?_ _); rotate_left; exact (by first | omega | (simp; done) | (simp; omega))) | refine Below.drew ?_ | refine Below_drewN ?_ _))).mono ?_; rintro e w1 ⟨rfl, hb⟩; have hB1 : Below w.heap.size w w1 := Below.trans (by (with_reducible repeat first | exact Below.refl _ _ | assumption | ((first | refine Below.setCell ?_ ?_ _ | refine Below.alloc ?_ ?_ _); rotate_left; exact (by first | omega | (simp; done) | (simp; omega))) | refine Below.drew ?_ | refine Below_drewN ?_ _)) (hb.mono (by first | omega | ((try simp only [World.size_alloc, World.size_setCell, size_drew, size_drewN]); omega) | (simp; done) | (simp; omega))))
        go_roundw
        case rel => exact ⟨j + 1, by omega, by go_num, HN, by (with_reducible repeat first | exact Below.refl _ _ | assumption | ((first | refine Below.setCell ?_ ?_ _ | refine Below.alloc ?_ ?_ _); rotate_left; exact (by first | omega | (simp; done) | (simp; omega))) | refine Below.drew ?_ | refine Below_drewN ?_ _)⟩
        case measure => simp [intOf]; omega
      · have HN : Hid ((j : Int) = G) := Lib.hid (by rw [← hG.out, HS.out, hp]; rfl)
        have HC := Lib.hid (show ∀ W, Below w.heap.size w W → Calls Try.prog k #[intV x] W (Ret (.bool true) W) from fun W h => by have := HC.out W HM.out h; rwa [hp] at this)
        clear hp
        go_wp2_with ((with_reducible show Calls _ k _ _ _); refine (HC.out _ (by (with_reducible repeat first | exact Below.refl _ _ | assumption | ((first | refine Below.setCell ?_ ?_ _ | refine Below.alloc ?_ ?_ _); rotate_left; exact (by first | omega | (simp; done) | (simp; omega))) | refine Below.drew ?_ | refine Below_drewN ?_ _))).mono ?_; rintro e w1 ⟨rfl, hb⟩; have hB1 : Below w.heap.size w w1 := Below.trans (by (with_reducible repeat first | exact Below.refl _ _ | assumption | ((first | refine Below.setCell ?_ ?_ _ | refine Below.alloc ?_ ?_ _); rotate_left; exact (by first | omega | (simp; done) | (simp; omega))) | refine Below.drew ?_ | refine Below_drewN ?_ _)) (hb.mono (by first | omega | ((try simp only [World.size_alloc, World.size_setCell, size_drew, size_drewN]); omega) | (simp; done) | (simp; omega))))
        go_ret
        exact ⟨by rw [← HN.out]; rfl, by (with_reducible repeat first | exact Below.refl _ _ | assumption | ((first | refine Below.setCell ?_ ?_ _ | refine Below.alloc ?_ ?_ _); rotate_left; exact (by first | omega | (simp; done) | (simp; omega))) | refine Below.drew ?_ | refine Below_drewN ?_ _)⟩
    · have HN : Hid ((-1 : Int) = G) := Lib.hid (by rw [← hG.out, List.drop_of_length_le (by rw [HI.out.1]; omega)]; rfl)
      go_wp2
      go_ret
      exact ⟨by rw [← HN.out]; rfl, hB⟩

set_option maxHeartbeats 1000000 in
theorem containsint0 (k : Nat) (p : Int → Bool) (A : Option Addr) (len cap : Nat) (zs : List Int) (w : World) (hI : IsT 1 intCells w A len zs) (hl : len ≤ 1000000000000000)
    (hE : ∀ (args : Array Value) (W : World), (callFunc k args).run Try.prog W = .ok (.enter k args) W)
    (hk : ∀ (x : Int) (W : World), x ∈ zs → Below w.heap.size w W → Calls Try.prog k #[intV x] W (Ret (.bool (p x)) W)) :
    Calls Try.prog 49 #[.slice A len cap, .func (.func k) #[] #[]] w (Ret (.bool (zs.any p)) w) := by
  have HI := Lib.hid (indexint0 k  p A len cap zs w hI hl hE hk)
  have HA := Lib.hid (idxL_nonneg p zs)
  obtain ⟨b1, b2⟩ := idxL_bd p zs
  rw [hI.1] at b2
  clear hI hE hk
  generalize idxL p zs = G at *
  go_enter Try.func49, Try.ntmps49
  go_wp2_with (go_at_call 82; refine HI.out.mono ?_; rintro e w1 ⟨rfl, hb⟩)
  go_ret
  exact ⟨by rw [← HA.out]; rfl, hb⟩

end Go.Proofs.Ytcdhanfjcnfjjaa
end
section
/- slices.IndexFunc and ContainsFunc over []Gain, over this seat's translation (written by mk_mac.py). -/
namespace Go.Proofs.Ytcdhanfjcnfjjaa
set_option linter.unusedVariables false
set_option linter.unusedSimpArgs false
open Go.RowKit

set_option maxHeartbeats 2000000 in
theorem indexGain0 (k : Nat) (p : GainD → Bool) (A : Option Addr) (len cap : Nat) (zs : List GainD) (w : World) (hI : IsT 4 GainD.cells w A len zs) (hl : len ≤ 1000000000000000)
    (hE : ∀ (args : Array Value) (W : World), (callFunc k args).run Try.prog W = .ok (.enter k args) W)
    (hk : ∀ (x : GainD) (W : World), x ∈ zs → Below w.heap.size w W → Calls Try.prog k #[GainD.v x] W (Ret (.bool (p x)) W)) :
    Calls Try.prog 61 #[.slice A len cap, .func (.func k) #[] #[]] w (Ret (.int .i64 (idxL p zs)) w) := by
  have HI := Lib.hid hI
  have HK := Lib.hid hk
  have HG : Hid (idxL p zs = idxGo p zs 0) := Lib.hid rfl
  generalize idxL p zs = G at *
  clear hI hk
  go_enter Try.func61, Try.ntmps61
  go_wp2_with fail
  go_loopw [5, 8] (fun _ i wr => ∃ j : Nat, j ≤ len ∧ i = .int .i64 j ∧ Hid (idxGo p (zs.drop j) j = G) ∧ Below w.heap.size w wr) (fun _ i _ => len - (intOf i).toNat)
  case atStart => exact ⟨0, Nat.zero_le _, rfl, Lib.hid HG.out.symm, Below.refl _ _⟩
  case round =>
    obtain ⟨j, hj, rfl, hG, hB⟩ := hrel
    by_cases hlt : j < len
    · obtain ⟨hzl, hcl⟩ := HI.out.below hB
      obtain ⟨b, o, rfl, hb0, hcl⟩ := hcl (by omega)
      obtain ⟨x, hx⟩ : ∃ x, zs[j]? = some x := ⟨_, List.getElem?_eq_getElem (by omega)⟩
      have HM := Lib.hid (List.mem_of_getElem? hx)
      have HS := Lib.hid (idxGo_drop p hx (j : Int))
      have x0 : wr.cell? ⟨b, o + j * 4, none⟩ = some (.int .i64 x.r) := by have h := hcl j x hx 0 _ rfl; simpa using h
      have x1 : wr.cell? ⟨b, o + j * 4 + 1, none⟩ = some (.int .i64 x.z) := by have h := hcl j x hx 1 _ rfl; simpa using h
      have x2 : wr.cell? ⟨b, o + j * 4 + 2, none⟩ = some (.int .i64 x.sr) := by have h := hcl j x hx 2 _ rfl; simpa using h
      have x3 : wr.cell? ⟨b, o + j * 4 + 3, none⟩ = some (.int .i64 x.sz) := by have h := hcl j x hx 3 _ rfl; simpa using h
      have hsz := hB.size
      have HC := Lib.hid (HK.out x)
      clear hcl hx hzl
      cases hp : p x
      · have HN : Hid (idxGo p (zs.drop (j + 1)) ((j + 1 : Nat) : Int) = G) := Lib.hid (by rw [← hG.out, HS.out, hp]; rfl)
        have HC := Lib.hid (show ∀ W, Below w.heap.size w W → Calls Try.prog k #[GainD.v x] W (Ret (.bool false) W) from fun W h => by have := HC.out W HM.out h; rwa [hp] at this)
        clear hp
        go_wp2_with ((with_reducible show Calls _ k _ _ _); refine (HC.out _ (by (with_reducible repeat first | exact Below.refl _ _ | assumption | ((first | refine Below.setCell ?_ ?_ _ | refine Below.alloc ?_ ?_ _); rotate_left; exact (by first | omega | (simp; done) | (simp; omega))) | refine Below.drew ?_ | refine Below_drewN ?_ _))).mono ?_; rintro e w1 ⟨rfl, hb⟩; have hB1 : Below w.heap.size w w1 := Below.trans (by (with_reducible repeat first | exact Below.refl _ _ | assumption | ((first | refine Below.setCell ?_ ?_ _ | refine Below.alloc ?_ ?_ _); rotate_left; exact (by first | omega | (simp; done) | (simp; omega))) | refine Below.drew ?_ | refine Below_drewN ?_ _)) (hb.mono (by first | omega | ((try simp only [World.size_alloc, World.size_setCell, size_drew, size_drewN]); omega) | (simp; done) | (simp; omega))))
        go_roundw
        case rel => exact ⟨j + 1, by omega, by go_num, HN, by (with_reducible repeat first | exact Below.refl _ _ | assumption | ((first | refine Below.setCell ?_ ?_ _ | refine Below.alloc ?_ ?_ _); rotate_left; exact (by first | omega | (simp; done) | (simp; omega))) | refine Below.drew ?_ | refine Below_drewN ?_ _)⟩
        case measure => simp [intOf]; omega
      · have HN : Hid ((j : Int) = G) := Lib.hid (by rw [← hG.out, HS.out, hp]; rfl)
        have HC := Lib.hid (show ∀ W, Below w.heap.size w W → Calls Try.prog k #[GainD.v x] W (Ret (.bool true) W) from fun W h => by have := HC.out W HM.out h; rwa [hp] at this)
        clear hp
        go_wp2_with ((with_reducible show Calls _ k _ _ _); refine (HC.out _ (by (with_reducible repeat first | exact Below.refl _ _ | assumption | ((first | refine Below.setCell ?_ ?_ _ | refine Below.alloc ?_ ?_ _); rotate_left; exact (by first | omega | (simp; done) | (simp; omega))) | refine Below.drew ?_ | refine Below_drewN ?_ _))).mono ?_; rintro e w1 ⟨rfl, hb⟩; have hB1 : Below w.heap.size w w1 := Below.trans (by (with_reducible repeat first | exact Below.refl _ _ | assumption | ((first | refine Below.setCell ?_ ?_ _ | refine Below.alloc ?_ ?_ _); rotate_left; exact (by first | omega | (simp; done) | (simp; omega))) | refine Below.drew ?_ | refine Below_drewN ?_ _)) (hb.mono (by first | omega | ((try simp only [World.size_alloc, World.size_setCell, size_drew, size_drewN]); omega) | (simp; done) | (simp; omega))))
        go_ret
        exact ⟨by rw [← HN.out]; rfl, by (with_reducible repeat first | exact Below.refl _ _ | assumption | ((first | refine Below.setCell ?_ ?_ _ | refine Below.alloc ?_ ?_ _); rotate_left; exact (by first | omega | (simp; done) | (simp; omega))) | refine Below.drew ?_ | refine Below_drewN ?_ _)⟩
    · have HN : Hid ((-1 : Int) = G) := Lib.hid (by rw [← hG.out, List.drop_of_length_le (by rw [HI.out.1]; omega)]; rfl)
      go_wp2
      go_ret
      exact ⟨by rw [← HN.out]; rfl, hB⟩

set_option maxHeartbeats 1000000 in
theorem containsGain0 (k : Nat) (p : GainD → Bool) (A : Option Addr) (len cap : Nat) (zs : List GainD) (w : World) (hI : IsT 4 GainD.cells w A len zs) (hl : len ≤ 1000000000000000)
    (hE : ∀ (args : Array Value) (W : World), (callFunc k args).run Try.prog W = .ok (.enter k args) W)
    (hk : ∀ (x : GainD) (W : World), x ∈ zs → Below w.heap.size w W → Calls Try.prog k #[GainD.v x] W (Ret (.bool (p x)) W)) :
    Calls Try.prog 35 #[.slice A len cap, .func (.func k) #[] #[]] w (Ret (.bool (zs.any p)) w) := by
  have HI := Lib.hid (indexGain0 k  p A len cap zs w hI hl hE hk)
  have HA := Lib.hid (idxL_nonneg p zs)
  obtain ⟨b1, b2⟩ := idxL_bd p zs
  rw [hI.1] at b2
  clear hI hE hk
  generalize idxL p zs = G at *
  go_enter Try.func35, Try.ntmps35
  go_wp2_with (go_at_call 61; refine HI.out.mono ?_; rintro e w1 ⟨rfl, hb⟩)
  go_ret
  exact ⟨by rw [← HA.out]; rfl, hb⟩

end Go.Proofs.Ytcdhanfjcnfjjaa
end
section
/- Package control: contracts of tooStrong, ValidSetup, validNumbers, over this seat's translation (written by mk_cts.py). -/
namespace Go.Proofs.Ytcdhanfjcnfjjaa
set_option linter.unusedVariables false
set_option linter.unusedSimpArgs false
open Go.RowKit Go.Shelf

theorem tooStrong1_any (n : Int) (w : World) :
    Calls Try.prog 62 #[intV n] w (Ret (.bool (!wthn n (-1000000) 1000000)) w) := by
  go_enter Try.func62, Try.ntmps62
  go_wp2_with (go_at_call 22; refine (cwithin_any _ _ _ _).mono ?_; rintro e w1 ⟨rfl, rfl⟩)
  go_ret
  exact ⟨rfl, by (with_reducible repeat first | exact Below.refl _ _ | assumption | ((first | refine Below.setCell ?_ ?_ _ | refine Below.alloc ?_ ?_ _); rotate_left; exact (by first | omega | (simp; done) | (simp; omega))) | refine Below.drew ?_ | refine Below_drewN ?_ _)⟩

theorem tooStrong_any (x : GainD) (w : World) :
    Calls Try.prog 36 #[x.v] w (Ret (.bool (strongB x)) w) := by
  obtain ⟨r, z, sr, sz⟩ := x
  have HC := Lib.hid (fun W (hI : IsT 1 intCells W (some ⟨w.heap.size + 1, 0, none⟩) 4 [r, z, sr, sz]) => containsint0 62 (fun n => !wthn n (-1000000) 1000000) (some ⟨w.heap.size + 1, 0, none⟩) 4 4 [r, z, sr, sz] W hI (by omega) (fun args W => enters_of Try.func62 (by kernel_rfl) rfl args W) (fun x W' _ _ => tooStrong1_any x W'))
  have HE : Hid (strongB ⟨r, z, sr, sz⟩ = ([r, z, sr, sz].any fun n => !wthn n (-1000000) 1000000)) := Lib.hid rfl
  generalize strongB ⟨r, z, sr, sz⟩ = K at *
  generalize ([r, z, sr, sz].any fun n => !wthn n (-1000000) 1000000) = K2 at *
  go_enter Try.func36, Try.ntmps36
  go_wp2_with fail
  refine (HC.out _ (by have h := isT_new (w.alloc (.cells #[.int .i64 r, .int .i64 z, .int .i64 sr, .int .i64 sz] 62)) [r, z, sr, sz] 3; (try simp only [World.size_alloc] at h); exact h)).mono ?_
  rintro e w1 ⟨rfl, hb⟩
  go_wp2_with fail
  go_ret
  exact ⟨by rw [HE.out]; rfl, Below.trans (by (with_reducible repeat first | exact Below.refl _ _ | assumption | ((first | refine Below.setCell ?_ ?_ _ | refine Below.alloc ?_ ?_ _); rotate_left; exact (by first | omega | (simp; done) | (simp; omega))) | refine Below.drew ?_ | refine Below_drewN ?_ _)) (hb.mono (by first | omega | ((try simp only [World.size_alloc, World.size_setCell, size_drew, size_drewN]); omega) | (simp; done) | (simp; omega)))⟩

theorem validNumbers1_any (n : Int) (w : World) :
    Calls Try.prog 50 #[intV n] w (Ret (.bool (!wthn n (-1000000000000000) 1000000000000000)) w) := by
  go_enter Try.func50, Try.ntmps50
  go_wp2_with (go_at_call 22; refine (cwithin_any _ _ _ _).mono ?_; rintro e w1 ⟨rfl, rfl⟩)
  go_ret
  exact ⟨rfl, by (with_reducible repeat first | exact Below.refl _ _ | assumption | ((first | refine Below.setCell ?_ ?_ _ | refine Below.alloc ?_ ?_ _); rotate_left; exact (by first | omega | (simp; done) | (simp; omega))) | refine Below.drew ?_ | refine Below_drewN ?_ _)⟩

theorem not_any_num (l : List Int) : (!(l.any fun n => !wthn n (-1000000000000000) 1000000000000000)) = numB l := by
  unfold numB
  induction l with
  | nil => rfl
  | cons x r ih => simp only [List.any_cons, List.all_cons, Bool.not_or, Bool.not_not, ih]

theorem validNumbers_any (A : Option Addr) (len cap : Nat) (zs : List Int) (w : World) (hI : IsT 1 intCells w A len zs) (hl : len ≤ 1000000000000000) :
    Calls Try.prog 33 #[.slice A len cap] w (Ret (.bool (numB zs)) w) := by
  have HE := Lib.hid (not_any_num zs)
  have HC := Lib.hid (containsint0 50 (fun n => !wthn n (-1000000000000000) 1000000000000000) A len cap zs w hI hl (fun args W => enters_of Try.func50 (by kernel_rfl) rfl args W) (fun x W _ _ => validNumbers1_any x W))
  clear hI
  generalize numB zs = G at *
  generalize (zs.any fun n => !wthn n (-1000000000000000) 1000000000000000) = K at *
  go_enter Try.func33, Try.ntmps33
  go_wp2_with fail
  refine HC.out.mono ?_
  rintro e w1 ⟨rfl, hb⟩
  go_wp2_with fail
  go_ret
  exact ⟨by rw [← HE.out]; rfl, hb⟩

set_option maxRecDepth 100000 in
set_option maxHeartbeats 8000000 in
theorem setup_any (R : MachR) (M : MachD) (G : Option Addr) (ng cg : Nat) (gs : List GainD) (most : Int) (w : World) (hM : IsM w R M) (hG : IsT 4 GainD.cells w G ng gs) (hn : ng ≤ 1000000000000000) :
    Calls Try.prog 16 #[.agg (machCells R M), .agg #[.slice G ng cg, .int .i64 most]] w (Ret (.bool (setupB M gs most)) w) := by
  have HC0 := Lib.hid (fun W (hb : Below w.heap.size w W) => check_any R M W (hM.below hb))
  have HF0 := Lib.hid (fun W (hb : Below w.heap.size w W) => containsGain0 36 strongB G ng cg gs W (hG.below hb) hn (fun args W => enters_of Try.func36 (by kernel_rfl) rfl args W) (fun x W' _ _ => tooStrong_any x W'))
  have HS : Hid ((decide (checkC M = 0) && (decide (ng = R.la) && (!(gs.any strongB) && wthn most 0 1000000000))) = setupB M gs most) := Lib.hid (by unfold setupB; rw [hG.1, hM.coils.1])
  clear hM hG hn
  generalize setupB M gs most = K at *
  generalize checkC M = c at *
  generalize gs.any strongB = q at *
  obtain ⟨A, B, Cl, D, la, ca, lb, cb, lc, cl, ld, cd⟩ := R
  obtain ⟨name, coils, shells, limits, ⟨r, z, nr, nz, step⟩, sensors⟩ := M
  dsimp only at *
  have HC := Lib.hid (show ∀ W, Below w.heap.size w W → Calls Try.prog 34 #[.agg #[.string name, .slice A la ca, .slice B lb cb, .slice Cl lc cl, .int .i64 r, .int .i64 z, .int .i64 nr, .int .i64 nz, .int .i64 step, .slice D ld cd]] W (Ret (.int .i64 c) W) from HC0.out)
  have HF := Lib.hid (show ∀ W, Below w.heap.size w W → Calls Try.prog 35 #[.slice G ng cg, .func (.func 36) #[] #[]] W (Ret (.bool q) W) from HF0.out)
  clear HC0 HF0
  show Calls Try.prog 16 #[.agg #[.string name, .slice A la ca, .slice B lb cb, .slice Cl lc cl, .int .i64 r, .int .i64 z, .int .i64 nr, .int .i64 nz, .int .i64 step, .slice D ld cd], .agg #[.slice G ng cg, .int .i64 most]] w _
  by_cases hc : c = 0
  rotate_left
  · rw [decide_eq_false hc] at HS
    go_enter Try.func16, Try.ntmps16
    go_upto_region 1 with (fail)
    have Fm : Hid (RowL (w.heap.size) [.string name, .slice A la ca, .slice B lb cb, .slice Cl lc cl, .int .i64 r, .int .i64 z, .int .i64 nr, .int .i64 nz, .int .i64 step, .slice D ld cd] ((w.alloc (.cells #[.string name, .slice A la ca, .slice B lb cb, .slice Cl lc cl, .int .i64 r, .int .i64 z, .int .i64 nr, .int .i64 nz, .int .i64 step, .slice D ld cd] 29)).alloc (.cells #[.slice G ng cg, .int .i64 most] 32))) := Lib.hid (by have h := RowL.new w #[.string name, .slice A la ca, .slice B lb cb, .slice Cl lc cl, .int .i64 r, .int .i64 z, .int .i64 nr, .int .i64 nz, .int .i64 step, .slice D ld cd] 29; (try simp only [World.size_alloc] at h); exact (h.alloc _))
    have Fx : Hid (RowL (w.heap.size + 1) [.slice G ng cg, .int .i64 most] ((w.alloc (.cells #[.string name, .slice A la ca, .slice B lb cb, .slice Cl lc cl, .int .i64 r, .int .i64 z, .int .i64 nr, .int .i64 nz, .int .i64 step, .slice D ld cd] 29)).alloc (.cells #[.slice G ng cg, .int .i64 most] 32))) := Lib.hid (by have h := RowL.new (w.alloc (.cells #[.string name, .slice A la ca, .slice B lb cb, .slice Cl lc cl, .int .i64 r, .int .i64 z, .int .i64 nr, .int .i64 nz, .int .i64 step, .slice D ld cd] 29)) #[.slice G ng cg, .int .i64 most] 32; (try simp only [World.size_alloc] at h); exact h)
    have hB0 : Below w.heap.size w ((w.alloc (.cells #[.string name, .slice A la ca, .slice B lb cb, .slice Cl lc cl, .int .i64 r, .int .i64 z, .int .i64 nr, .int .i64 nz, .int .i64 step, .slice D ld cd] 29)).alloc (.cells #[.slice G ng cg, .int .i64 most] 32)) := by (with_reducible repeat first | exact Below.refl _ _ | assumption | ((first | refine Below.setCell ?_ ?_ _ | refine Below.alloc ?_ ?_ _); rotate_left; exact (by first | omega | (simp; done) | (simp; omega))) | refine Below.drew ?_ | refine Below_drewN ?_ _)
    have sW0 : w.heap.size + 1 < ((w.alloc (.cells #[.string name, .slice A la ca, .slice B lb cb, .slice Cl lc cl, .int .i64 r, .int .i64 z, .int .i64 nr, .int .i64 nz, .int .i64 step, .slice D ld cd] 29)).alloc (.cells #[.slice G ng cg, .int .i64 most] 32)).heap.size := by simp only [World.size_alloc]; omega
    obtain ⟨W0, hW0⟩ : ∃ W, ((w.alloc (.cells #[.string name, .slice A la ca, .slice B lb cb, .slice Cl lc cl, .int .i64 r, .int .i64 z, .int .i64 nr, .int .i64 nz, .int .i64 step, .slice D ld cd] 29)).alloc (.cells #[.slice G ng cg, .int .i64 most] 32)) = W := ⟨_, rfl⟩
    rw [hW0] at Fm Fx hB0 sW0 ⊢
    clear hW0
    have m0 := Fm.out.cell 0 (.string name) rfl
    have m1 := Fm.out.cell 1 (.slice A la ca) rfl
    have m2 := Fm.out.cell 2 (.slice B lb cb) rfl
    have m3 := Fm.out.cell 3 (.slice Cl lc cl) rfl
    have m4 := Fm.out.cell 4 (.int .i64 r) rfl
    have m5 := Fm.out.cell 5 (.int .i64 z) rfl
    have m6 := Fm.out.cell 6 (.int .i64 nr) rfl
    have m7 := Fm.out.cell 7 (.int .i64 nz) rfl
    have m8 := Fm.out.cell 8 (.int .i64 step) rfl
    have m9 := Fm.out.cell 9 (.slice D ld cd) rfl
    have x0 := Fx.out.cell 0 (.slice G ng cg) rfl
    have x1 := Fx.out.cell 1 (.int .i64 most) rfl
    have d0 : ((c : Int) == 0) = false := by rw [beq_eq_false_iff_ne]; exact hc
    go_wp2_with fail
    refine (HC.out _ hB0).mono ?_
    rintro e w1 ⟨rfl, hb⟩
    clear m0 m1 m2 m3 m4 m5 m6 m7 m8 m9 x0 x1
    have Gm := Lib.hid (Fm.out.below hb)
    clear Fm
    have Fm := Lib.hid Gm.out
    clear Gm
    have Gx := Lib.hid (Fx.out.below hb)
    clear Fx
    have Fx := Lib.hid Gx.out
    clear Gx
    have m0 := Fm.out.cell 0 (.string name) rfl
    have m1 := Fm.out.cell 1 (.slice A la ca) rfl
    have m2 := Fm.out.cell 2 (.slice B lb cb) rfl
    have m3 := Fm.out.cell 3 (.slice Cl lc cl) rfl
    have m4 := Fm.out.cell 4 (.int .i64 r) rfl
    have m5 := Fm.out.cell 5 (.int .i64 z) rfl
    have m6 := Fm.out.cell 6 (.int .i64 nr) rfl
    have m7 := Fm.out.cell 7 (.int .i64 nz) rfl
    have m8 := Fm.out.cell 8 (.int .i64 step) rfl
    have m9 := Fm.out.cell 9 (.slice D ld cd) rfl
    have x0 := Fx.out.cell 0 (.slice G ng cg) rfl
    have x1 := Fx.out.cell 1 (.int .i64 most) rfl
    have hBw1 := hB0.trans (hb.mono hB0.size)
    clear hb
    go_wp2_with fail
    go_ret
    exact ⟨by rw [← HS.out]; simp, by (with_reducible repeat first | exact Below.refl _ _ | assumption | ((first | refine Below.setCell ?_ ?_ _ | refine Below.alloc ?_ ?_ _); rotate_left; exact (by first | omega | (simp; done) | (simp; omega))) | refine Below.drew ?_ | refine Below_drewN ?_ _)⟩
  · subst hc
    rw [decide_eq_true (rfl : (0 : Int) = 0)] at HS
    by_cases hl : ng = la
    rotate_left
    · rw [decide_eq_false hl] at HS
      have e1 := (int_eq ng la).trans (decide_eq_false hl)
      clear hl
      go_enter Try.func16, Try.ntmps16
      go_upto_region 1 with (fail)
      have Fm : Hid (RowL (w.heap.size) [.string name, .slice A la ca, .slice B lb cb, .slice Cl lc cl, .int .i64 r, .int .i64 z, .int .i64 nr, .int .i64 nz, .int .i64 step, .slice D ld cd] ((w.alloc (.cells #[.string name, .slice A la ca, .slice B lb cb, .slice Cl lc cl, .int .i64 r, .int .i64 z, .int .i64 nr, .int .i64 nz, .int .i64 step, .slice D ld cd] 29)).alloc (.cells #[.slice G ng cg, .int .i64 most] 32))) := Lib.hid (by have h := RowL.new w #[.string name, .slice A la ca, .slice B lb cb, .slice Cl lc cl, .int .i64 r, .int .i64 z, .int .i64 nr, .int .i64 nz, .int .i64 step, .slice D ld cd] 29; (try simp only [World.size_alloc] at h); exact (h.alloc _))
      have Fx : Hid (RowL (w.heap.size + 1) [.slice G ng cg, .int .i64 most] ((w.alloc (.cells #[.string name, .slice A la ca, .slice B lb cb, .slice Cl lc cl, .int .i64 r, .int .i64 z, .int .i64 nr, .int .i64 nz, .int .i64 step, .slice D ld cd] 29)).alloc (.cells #[.slice G ng cg, .int .i64 most] 32))) := Lib.hid (by have h := RowL.new (w.alloc (.cells #[.string name, .slice A la ca, .slice B lb cb, .slice Cl lc cl, .int .i64 r, .int .i64 z, .int .i64 nr, .int .i64 nz, .int .i64 step, .slice D ld cd] 29)) #[.slice G ng cg, .int .i64 most] 32; (try simp only [World.size_alloc] at h); exact h)
      have hB0 : Below w.heap.size w ((w.alloc (.cells #[.string name, .slice A la ca, .slice B lb cb, .slice Cl lc cl, .int .i64 r, .int .i64 z, .int .i64 nr, .int .i64 nz, .int .i64 step, .slice D ld cd] 29)).alloc (.cells #[.slice G ng cg, .int .i64 most] 32)) := by (with_reducible repeat first | exact Below.refl _ _ | assumption | ((first | refine Below.setCell ?_ ?_ _ | refine Below.alloc ?_ ?_ _); rotate_left; exact (by first | omega | (simp; done) | (simp; omega))) | refine Below.drew ?_ | refine Below_drewN ?_ _)
      have sW0 : w.heap.size + 1 < ((w.alloc (.cells #[.string name, .slice A la ca, .slice B lb cb, .slice Cl lc cl, .int .i64 r, .int .i64 z, .int .i64 nr, .int .i64 nz, .int .i64 step, .slice D ld cd] 29)).alloc (.cells #[.slice G ng cg, .int .i64 most] 32)).heap.size := by simp only [World.size_alloc]; omega
      obtain ⟨W0, hW0⟩ : ∃ W, ((w.alloc (.cells #[.string name, .slice A la ca, .slice B lb cb, .slice Cl lc cl, .int .i64 r, .int .i64 z, .int .i64 nr, .int .i64 nz, .int .i64 step, .slice D ld cd] 29)).alloc (.cells #[.slice G ng cg, .int .i64 most] 32)) = W := ⟨_, rfl⟩
      rw [hW0] at Fm Fx hB0 sW0 ⊢
      clear hW0
      have m0 := Fm.out.cell 0 (.string name) rfl
      have m1 := Fm.out.cell 1 (.slice A la ca) rfl
      have m2 := Fm.out.cell 2 (.slice B lb cb) rfl
      have m3 := Fm.out.cell 3 (.slice Cl lc cl) rfl
      have m4 := Fm.out.cell 4 (.int .i64 r) rfl
      have m5 := Fm.out.cell 5 (.int .i64 z) rfl
      have m6 := Fm.out.cell 6 (.int .i64 nr) rfl
      have m7 := Fm.out.cell 7 (.int .i64 nz) rfl
      have m8 := Fm.out.cell 8 (.int .i64 step) rfl
      have m9 := Fm.out.cell 9 (.slice D ld cd) rfl
      have x0 := Fx.out.cell 0 (.slice G ng cg) rfl
      have x1 := Fx.out.cell 1 (.int .i64 most) rfl
      have d0 : ((0 : Int) == 0) = true := rfl
      go_wp2_with fail
      refine (HC.out _ hB0).mono ?_
      rintro e w1 ⟨rfl, hb⟩
      clear m0 m1 m2 m3 m4 m5 m6 m7 m8 m9 x0 x1
      have Gm := Lib.hid (Fm.out.below hb)
      clear Fm
      have Fm := Lib.hid Gm.out
      clear Gm
      have Gx := Lib.hid (Fx.out.below hb)
      clear Fx
      have Fx := Lib.hid Gx.out
      clear Gx
      have m0 := Fm.out.cell 0 (.string name) rfl
      have m1 := Fm.out.cell 1 (.slice A la ca) rfl
      have m2 := Fm.out.cell 2 (.slice B lb cb) rfl
      have m3 := Fm.out.cell 3 (.slice Cl lc cl) rfl
      have m4 := Fm.out.cell 4 (.int .i64 r) rfl
      have m5 := Fm.out.cell 5 (.int .i64 z) rfl
      have m6 := Fm.out.cell 6 (.int .i64 nr) rfl
      have m7 := Fm.out.cell 7 (.int .i64 nz) rfl
      have m8 := Fm.out.cell 8 (.int .i64 step) rfl
      have m9 := Fm.out.cell 9 (.slice D ld cd) rfl
      have x0 := Fx.out.cell 0 (.slice G ng cg) rfl
      have x1 := Fx.out.cell 1 (.int .i64 most) rfl
      have hBw1 := hB0.trans (hb.mono hB0.size)
      clear hb
      go_wp2_with fail
      go_ret
      exact ⟨by rw [← HS.out]; simp, by (with_reducible repeat first | exact Below.refl _ _ | assumption | ((first | refine Below.setCell ?_ ?_ _ | refine Below.alloc ?_ ?_ _); rotate_left; exact (by first | omega | (simp; done) | (simp; omega))) | refine Below.drew ?_ | refine Below_drewN ?_ _)⟩
    · rw [decide_eq_true hl] at HS
      subst hl
      have e1 := (int_eq ng ng).trans (decide_eq_true rfl)
      cases q
      · go_enter Try.func16, Try.ntmps16
        go_upto_region 1 with (fail)
        have Fm : Hid (RowL (w.heap.size) [.string name, .slice A ng ca, .slice B lb cb, .slice Cl lc cl, .int .i64 r, .int .i64 z, .int .i64 nr, .int .i64 nz, .int .i64 step, .slice D ld cd] ((w.alloc (.cells #[.string name, .slice A ng ca, .slice B lb cb, .slice Cl lc cl, .int .i64 r, .int .i64 z, .int .i64 nr, .int .i64 nz, .int .i64 step, .slice D ld cd] 29)).alloc (.cells #[.slice G ng cg, .int .i64 most] 32))) := Lib.hid (by have h := RowL.new w #[.string name, .slice A ng ca, .slice B lb cb, .slice Cl lc cl, .int .i64 r, .int .i64 z, .int .i64 nr, .int .i64 nz, .int .i64 step, .slice D ld cd] 29; (try simp only [World.size_alloc] at h); exact (h.alloc _))
        have Fx : Hid (RowL (w.heap.size + 1) [.slice G ng cg, .int .i64 most] ((w.alloc (.cells #[.string name, .slice A ng ca, .slice B lb cb, .slice Cl lc cl, .int .i64 r, .int .i64 z, .int .i64 nr, .int .i64 nz, .int .i64 step, .slice D ld cd] 29)).alloc (.cells #[.slice G ng cg, .int .i64 most] 32))) := Lib.hid (by have h := RowL.new (w.alloc (.cells #[.string name, .slice A ng ca, .slice B lb cb, .slice Cl lc cl, .int .i64 r, .int .i64 z, .int .i64 nr, .int .i64 nz, .int .i64 step, .slice D ld cd] 29)) #[.slice G ng cg, .int .i64 most] 32; (try simp only [World.size_alloc] at h); exact h)
        have hB0 : Below w.heap.size w ((w.alloc (.cells #[.string name, .slice A ng ca, .slice B lb cb, .slice Cl lc cl, .int .i64 r, .int .i64 z, .int .i64 nr, .int .i64 nz, .int .i64 step, .slice D ld cd] 29)).alloc (.cells #[.slice G ng cg, .int .i64 most] 32)) := by (with_reducible repeat first | exact Below.refl _ _ | assumption | ((first | refine Below.setCell ?_ ?_ _ | refine Below.alloc ?_ ?_ _); rotate_left; exact (by first | omega | (simp; done) | (simp; omega))) | refine Below.drew ?_ | refine Below_drewN ?_ _)
        have sW0 : w.heap.size + 1 < ((w.alloc (.cells #[.string name, .slice A ng ca, .slice B lb cb, .slice Cl lc cl, .int .i64 r, .int .i64 z, .int .i64 nr, .int .i64 nz, .int .i64 step, .slice D ld cd] 29)).alloc (.cells #[.slice G ng cg, .int .i64 most] 32)).heap.size := by simp only [World.size_alloc]; omega
        obtain ⟨W0, hW0⟩ : ∃ W, ((w.alloc (.cells #[.string name, .slice A ng ca, .slice B lb cb, .slice Cl lc cl, .int .i64 r, .int .i64 z, .int .i64 nr, .int .i64 nz, .int .i64 step, .slice D ld cd] 29)).alloc (.cells #[.slice G ng cg, .int .i64 most] 32)) = W := ⟨_, rfl⟩
        rw [hW0] at Fm Fx hB0 sW0 ⊢
        clear hW0
        have m0 := Fm.out.cell 0 (.string name) rfl
        have m1 := Fm.out.cell 1 (.slice A ng ca) rfl
        have m2 := Fm.out.cell 2 (.slice B lb cb) rfl
        have m3 := Fm.out.cell 3 (.slice Cl lc cl) rfl
        have m4 := Fm.out.cell 4 (.int .i64 r) rfl
        have m5 := Fm.out.cell 5 (.int .i64 z) rfl
        have m6 := Fm.out.cell 6 (.int .i64 nr) rfl
        have m7 := Fm.out.cell 7 (.int .i64 nz) rfl
        have m8 := Fm.out.cell 8 (.int .i64 step) rfl
        have m9 := Fm.out.cell 9 (.slice D ld cd) rfl
        have x0 := Fx.out.cell 0 (.slice G ng cg) rfl
        have x1 := Fx.out.cell 1 (.int .i64 most) rfl
        have d0 : ((0 : Int) == 0) = true := rfl
        go_wp2_with fail
        refine (HC.out _ hB0).mono ?_
        rintro e w1 ⟨rfl, hb⟩
        clear m0 m1 m2 m3 m4 m5 m6 m7 m8 m9 x0 x1
        have Gm := Lib.hid (Fm.out.below hb)
        clear Fm
        have Fm := Lib.hid Gm.out
        clear Gm
        have Gx := Lib.hid (Fx.out.below hb)
        clear Fx
        have Fx := Lib.hid Gx.out
        clear Gx
        have m0 := Fm.out.cell 0 (.string name) rfl
        have m1 := Fm.out.cell 1 (.slice A ng ca) rfl
        have m2 := Fm.out.cell 2 (.slice B lb cb) rfl
        have m3 := Fm.out.cell 3 (.slice Cl lc cl) rfl
        have m4 := Fm.out.cell 4 (.int .i64 r) rfl
        have m5 := Fm.out.cell 5 (.int .i64 z) rfl
        have m6 := Fm.out.cell 6 (.int .i64 nr) rfl
        have m7 := Fm.out.cell 7 (.int .i64 nz) rfl
        have m8 := Fm.out.cell 8 (.int .i64 step) rfl
        have m9 := Fm.out.cell 9 (.slice D ld cd) rfl
        have x0 := Fx.out.cell 0 (.slice G ng cg) rfl
        have x1 := Fx.out.cell 1 (.int .i64 most) rfl
        have hBw1 := hB0.trans (hb.mono hB0.size)
        clear hb
        go_wp2_with fail
        refine (HF.out _ hBw1).mono ?_
        rintro e w2 ⟨rfl, hb⟩
        clear m0 m1 m2 m3 m4 m5 m6 m7 m8 m9 x0 x1
        have Gm := Lib.hid (Fm.out.below hb)
        clear Fm
        have Fm := Lib.hid Gm.out
        clear Gm
        have Gx := Lib.hid (Fx.out.below hb)
        clear Fx
        have Fx := Lib.hid Gx.out
        clear Gx
        have m0 := Fm.out.cell 0 (.string name) rfl
        have m1 := Fm.out.cell 1 (.slice A ng ca) rfl
        have m2 := Fm.out.cell 2 (.slice B lb cb) rfl
        have m3 := Fm.out.cell 3 (.slice Cl lc cl) rfl
        have m4 := Fm.out.cell 4 (.int .i64 r) rfl
        have m5 := Fm.out.cell 5 (.int .i64 z) rfl
        have m6 := Fm.out.cell 6 (.int .i64 nr) rfl
        have m7 := Fm.out.cell 7 (.int .i64 nz) rfl
        have m8 := Fm.out.cell 8 (.int .i64 step) rfl
        have m9 := Fm.out.cell 9 (.slice D ld cd) rfl
        have x0 := Fx.out.cell 0 (.slice G ng cg) rfl
        have x1 := Fx.out.cell 1 (.int .i64 most) rfl
        have hBw2 := hBw1.trans (hb.mono hBw1.size)
        clear hb
        go_wp2_with (go_at_call 22; refine (cwithin_any _ _ _ _).mono ?_; rintro e w3 ⟨rfl, rfl⟩)
        go_ret
        exact ⟨by rw [← HS.out]; simp, by (with_reducible repeat first | exact Below.refl _ _ | assumption | ((first | refine Below.setCell ?_ ?_ _ | refine Below.alloc ?_ ?_ _); rotate_left; exact (by first | omega | (simp; done) | (simp; omega))) | refine Below.drew ?_ | refine Below_drewN ?_ _)⟩
      · go_enter Try.func16, Try.ntmps16
        go_upto_region 1 with (fail)
        have Fm : Hid (RowL (w.heap.size) [.string name, .slice A ng ca, .slice B lb cb, .slice Cl lc cl, .int .i64 r, .int .i64 z, .int .i64 nr, .int .i64 nz, .int .i64 step, .slice D ld cd] ((w.alloc (.cells #[.string name, .slice A ng ca, .slice B lb cb, .slice Cl lc cl, .int .i64 r, .int .i64 z, .int .i64 nr, .int .i64 nz, .int .i64 step, .slice D ld cd] 29)).alloc (.cells #[.slice G ng cg, .int .i64 most] 32))) := Lib.hid (by have h := RowL.new w #[.string name, .slice A ng ca, .slice B lb cb, .slice Cl lc cl, .int .i64 r, .int .i64 z, .int .i64 nr, .int .i64 nz, .int .i64 step, .slice D ld cd] 29; (try simp only [World.size_alloc] at h); exact (h.alloc _))
        have Fx : Hid (RowL (w.heap.size + 1) [.slice G ng cg, .int .i64 most] ((w.alloc (.cells #[.string name, .slice A ng ca, .slice B lb cb, .slice Cl lc cl, .int .i64 r, .int .i64 z, .int .i64 nr, .int .i64 nz, .int .i64 step, .slice D ld cd] 29)).alloc (.cells #[.slice G ng cg, .int .i64 most] 32))) := Lib.hid (by have h := RowL.new (w.alloc (.cells #[.string name, .slice A ng ca, .slice B lb cb, .slice Cl lc cl, .int .i64 r, .int .i64 z, .int .i64 nr, .int .i64 nz, .int .i64 step, .slice D ld cd] 29)) #[.slice G ng cg, .int .i64 most] 32; (try simp only [World.size_alloc] at h); exact h)
        have hB0 : Below w.heap.size w ((w.alloc (.cells #[.string name, .slice A ng ca, .slice B lb cb, .slice Cl lc cl, .int .i64 r, .int .i64 z, .int .i64 nr, .int .i64 nz, .int .i64 step, .slice D ld cd] 29)).alloc (.cells #[.slice G ng cg, .int .i64 most] 32)) := by (with_reducible repeat first | exact Below.refl _ _ | assumption | ((first | refine Below.setCell ?_ ?_ _ | refine Below.alloc ?_ ?_ _); rotate_left; exact (by first | omega | (simp; done) | (simp; omega))) | refine Below.drew ?_ | refine Below_drewN ?_ _)
        have sW0 : w.heap.size + 1 < ((w.alloc (.cells #[.string name, .slice A ng ca, .slice B lb cb, .slice Cl lc cl, .int .i64 r, .int .i64 z, .int .i64 nr, .int .i64 nz, .int .i64 step, .slice D ld cd] 29)).alloc (.cells #[.slice G ng cg, .int .i64 most] 32)).heap.size := by simp only [World.size_alloc]; omega
        obtain ⟨W0, hW0⟩ : ∃ W, ((w.alloc (.cells #[.string name, .slice A ng ca, .slice B lb cb, .slice Cl lc cl, .int .i64 r, .int .i64 z, .int .i64 nr, .int .i64 nz, .int .i64 step, .slice D ld cd] 29)).alloc (.cells #[.slice G ng cg, .int .i64 most] 32)) = W := ⟨_, rfl⟩
        rw [hW0] at Fm Fx hB0 sW0 ⊢
        clear hW0
        have m0 := Fm.out.cell 0 (.string name) rfl
        have m1 := Fm.out.cell 1 (.slice A ng ca) rfl
        have m2 := Fm.out.cell 2 (.slice B lb cb) rfl
        have m3 := Fm.out.cell 3 (.slice Cl lc cl) rfl
        have m4 := Fm.out.cell 4 (.int .i64 r) rfl
        have m5 := Fm.out.cell 5 (.int .i64 z) rfl
        have m6 := Fm.out.cell 6 (.int .i64 nr) rfl
        have m7 := Fm.out.cell 7 (.int .i64 nz) rfl
        have m8 := Fm.out.cell 8 (.int .i64 step) rfl
        have m9 := Fm.out.cell 9 (.slice D ld cd) rfl
        have x0 := Fx.out.cell 0 (.slice G ng cg) rfl
        have x1 := Fx.out.cell 1 (.int .i64 most) rfl
        have d0 : ((0 : Int) == 0) = true := rfl
        go_wp2_with fail
        refine (HC.out _ hB0).mono ?_
        rintro e w1 ⟨rfl, hb⟩
        clear m0 m1 m2 m3 m4 m5 m6 m7 m8 m9 x0 x1
        have Gm := Lib.hid (Fm.out.below hb)
        clear Fm
        have Fm := Lib.hid Gm.out
        clear Gm
        have Gx := Lib.hid (Fx.out.below hb)
        clear Fx
        have Fx := Lib.hid Gx.out
        clear Gx
        have m0 := Fm.out.cell 0 (.string name) rfl
        have m1 := Fm.out.cell 1 (.slice A ng ca) rfl
        have m2 := Fm.out.cell 2 (.slice B lb cb) rfl
        have m3 := Fm.out.cell 3 (.slice Cl lc cl) rfl
        have m4 := Fm.out.cell 4 (.int .i64 r) rfl
        have m5 := Fm.out.cell 5 (.int .i64 z) rfl
        have m6 := Fm.out.cell 6 (.int .i64 nr) rfl
        have m7 := Fm.out.cell 7 (.int .i64 nz) rfl
        have m8 := Fm.out.cell 8 (.int .i64 step) rfl
        have m9 := Fm.out.cell 9 (.slice D ld cd) rfl
        have x0 := Fx.out.cell 0 (.slice G ng cg) rfl
        have x1 := Fx.out.cell 1 (.int .i64 most) rfl
        have hBw1 := hB0.trans (hb.mono hB0.size)
        clear hb
        go_wp2_with fail
        refine (HF.out _ hBw1).mono ?_
        rintro e w2 ⟨rfl, hb⟩
        clear m0 m1 m2 m3 m4 m5 m6 m7 m8 m9 x0 x1
        have Gm := Lib.hid (Fm.out.below hb)
        clear Fm
        have Fm := Lib.hid Gm.out
        clear Gm
        have Gx := Lib.hid (Fx.out.below hb)
        clear Fx
        have Fx := Lib.hid Gx.out
        clear Gx
        have m0 := Fm.out.cell 0 (.string name) rfl
        have m1 := Fm.out.cell 1 (.slice A ng ca) rfl
        have m2 := Fm.out.cell 2 (.slice B lb cb) rfl
        have m3 := Fm.out.cell 3 (.slice Cl lc cl) rfl
        have m4 := Fm.out.cell 4 (.int .i64 r) rfl
        have m5 := Fm.out.cell 5 (.int .i64 z) rfl
        have m6 := Fm.out.cell 6 (.int .i64 nr) rfl
        have m7 := Fm.out.cell 7 (.int .i64 nz) rfl
        have m8 := Fm.out.cell 8 (.int .i64 step) rfl
        have m9 := Fm.out.cell 9 (.slice D ld cd) rfl
        have x0 := Fx.out.cell 0 (.slice G ng cg) rfl
        have x1 := Fx.out.cell 1 (.int .i64 most) rfl
        have hBw2 := hBw1.trans (hb.mono hBw1.size)
        clear hb
        go_wp2_with fail
        go_ret
        exact ⟨by rw [← HS.out]; simp, by (with_reducible repeat first | exact Below.refl _ _ | assumption | ((first | refine Below.setCell ?_ ?_ _ | refine Below.alloc ?_ ?_ _); rotate_left; exact (by first | omega | (simp; done) | (simp; omega))) | refine Below.drew ?_ | refine Below_drewN ?_ _)⟩

end Go.Proofs.Ytcdhanfjcnfjjaa
end
