/- The specification: contracts of Digits and Format, over this seat's translation. -/
import Derived.Test.YtgfajfepmflfhaaDoorRdB
namespace Go.Proofs.YtgfajfepmflfhaaDoor
set_option linter.unusedVariables false
set_option linter.unusedSimpArgs false
open Go.RowKit Go.Lib

theorem dig_slice (d : Int) (h0 : 0 ≤ d) (h1 : d ≤ 9) (W : World) : (Instr.slice 9 (.string ⟨#[48, 49, 50, 51, 52, 53, 54, 55, 56, 57]⟩) (some (.int .i64 d)) (some (.int .i64 (d + 1))) none).run Tryd.prog W = .ok (.string ⟨#[UInt8.ofNat (48 + d.toNat)]⟩) W := by
  rw [run_slice_string _ _ _ _ _ _ _ (by kernel_rfl) h0 (by omega) (by show d + 1 ≤ 10; omega)]
  have : d = 0 ∨ d = 1 ∨ d = 2 ∨ d = 3 ∨ d = 4 ∨ d = 5 ∨ d = 6 ∨ d = 7 ∨ d = 8 ∨ d = 9 := by omega
  rcases this with rfl | rfl | rfl | rfl | rfl | rfl | rfl | rfl | rfl | rfl <;> rfl
theorem dig_add (c : UInt8) (l : List UInt8) (h : l.length ≤ 100) (W : World) : (Op.stringOp .add ⟨#[c]⟩ ⟨l.toArray⟩).run Tryd.prog W = .ok (.string ⟨(c :: l).toArray⟩) W :=
  add_lists [c] l (by simp; omega) W

set_option maxHeartbeats 4000000 in
theorem digits_pos (n : Int) (w : World) (h0 : 0 ≤ n) (h1 : n ≤ 1000000000000000) :
    Calls Tryd.prog 16 #[.int .i64 n] w (Ret (Str (decDigits n.toNat)) w) := by
  have hlen : (decDigits n.toNat).length ≤ 21 := by
    have := itoa_short (n := n) (by omega) (by omega)
    unfold itoa at this
    rwa [if_neg (by omega)] at this
  obtain ⟨D, hD⟩ : ∃ D, decDigits n.toNat = D := ⟨_, rfl⟩
  rw [hD] at hlen ⊢
  go_enter Tryd.func16, Tryd.ntmps16
  go_wp2_with fail
  go_loop [0, 3] (fun sn ss => ∃ (u : Int) (l : List UInt8), sn = .int .i64 u ∧ ss = .string ⟨l.toArray⟩ ∧ 0 ≤ u ∧ u ≤ 1000000000000000 ∧ D = decDigits u.toNat ++ l) (fun sn _ => (intOf sn).toNat)
  case atStart => exact ⟨n, [], rfl, rfl, h0, h1, by rw [hD]; simp⟩
  case round =>
    obtain ⟨u, l, rfl, rfl, u0, u1, hu⟩ := hrel
    have hl : l.length ≤ 100 := by
      have := congrArg List.length hu
      rw [List.length_append] at this
      omega
    have HU := Lib.hid hu
    clear hu
    by_cases hd : u ≤ 9
    · have q1 := dig_slice u u0 hd
      have HC : D = UInt8.ofNat (48 + u.toNat) :: l := by rw [HU.out, dec_small (by omega)]; rfl
      obtain ⟨c, hc⟩ : ∃ c, UInt8.ofNat (48 + u.toNat) = c := ⟨_, rfl⟩
      rw [hc] at q1 HC
      have HC := Lib.hid HC
      have q2 := dig_add c l hl
      clear hc
      go_wp2
      go_ret
      exact ⟨rfl, Below.refl _ _⟩
    · have hq : u.tdiv 10 = u / 10 := Int.tdiv_eq_ediv_of_nonneg (by omega)
      have hr : u.tmod 10 = u % 10 := Int.tmod_eq_emod_of_nonneg (by omega)
      obtain ⟨d, hde⟩ : ∃ d, u % 10 = d := ⟨_, rfl⟩
      obtain ⟨q, hqe⟩ : ∃ q, u / 10 = q := ⟨_, rfl⟩
      rw [hqe] at hq
      rw [hde] at hr
      have d0 : 0 ≤ d := by omega
      have d1 : d ≤ 9 := by omega
      have q1 := dig_slice d d0 d1
      have HE : D = decDigits q.toNat ++ (UInt8.ofNat (48 + d.toNat) :: l) := by
        rw [HU.out, dec_big (by omega), show u.toNat / 10 = q.toNat by omega, show u.toNat % 10 = d.toNat by omega]
        simp
      obtain ⟨c, hc⟩ : ∃ c, UInt8.ofNat (48 + d.toNat) = c := ⟨_, rfl⟩
      rw [hc] at q1 HE
      have HE := Lib.hid HE
      have q2 := dig_add c l hl
      clear hc
      have b0 : 0 ≤ q := by omega
      have b1 : q < u := by omega
      clear hqe hde
      go_wp2
      go_round
      case rel => exact ⟨q, _, rfl, rfl, b0, by omega, HE.out⟩
      case measure => first | (simp [intOf]; done) | (simp [intOf]; omega)

set_option maxHeartbeats 4000000 in
theorem digits_any (n : Int) (w : World) (h0 : -1000000000000000 ≤ n) (h1 : n ≤ 1000000000000000) :
    Calls Tryd.prog 16 #[.int .i64 n] w (Ret (Str (itoa n)) w) := by
  by_cases hn : n < 0
  · have e : itoa n = 45 :: decDigits (-n).toNat := by
      unfold itoa
      rw [if_pos hn, show n.natAbs = (-n).toNat by omega]
    have hlen := itoa_short (n := n) (by omega) (by omega)
    rw [e] at hlen ⊢
    have C := fun W => digits_pos (-n) W (by omega) (by omega)
    obtain ⟨D, hD⟩ : ∃ D, decDigits (-n).toNat = D := ⟨_, rfl⟩
    rw [hD] at hlen C ⊢
    have C' : ∀ W : World, Calls Tryd.prog 16 #[.int .i64 (-n)] W (Ret (.string ⟨D.toArray⟩) W) := C
    have q2 := dig_add 45 D (by simp at hlen; omega)
    clear e hD
    go_enter Tryd.func16, Tryd.ntmps16
    go_wp2_with (go_at_call 16; refine (C' _).mono ?_; rintro e w1 ⟨rfl, hb⟩; have hB : Below w.heap.size w w1 := Below.trans (by (repeat first | with_reducible exact Below.refl _ _ | with_reducible assumption | (with_reducible refine Below.setCell ?_ ?_ _; rotate_left; exact (by first | omega | (simp; done) | (simp; omega))) | (with_reducible refine Below.alloc ?_ ?_ _; rotate_left; exact (by first | omega | (simp; done) | (simp; omega))) | with_reducible refine Below.drew ?_ | with_reducible refine Below_drewN ?_ _)) (hb.mono (by first | omega | (simp; done) | (simp; omega))); obtain ⟨hc, hf⟩ := bcell hb; have hs := hb.size; clear hb; (try simp only [World.size_alloc, World.size_setCell] at hc hf); (try simp only [World.size_alloc, World.size_setCell] at hs); (try have hs' := Nat.lt_of_succ_le hs); (try have hs0 : w.heap.size < w1.heap.size := by omega); (try have hs1 : w.heap.size + 1 < w1.heap.size := by omega); (try have hs2 : w.heap.size + 1 + 1 < w1.heap.size := by omega); (try have hs3 : w.heap.size + 1 + 1 + 1 < w1.heap.size := by omega); (try have iso : (w1.cell? ⟨w.heap.size, 0, none⟩).isSome = true := by (rw [hc _ _ (by first | omega | (simp; done) | (simp; omega))]; (try simp only [isSome_setCell]); first | assumption | go_simp)); (try have iso : (w1.cell? ⟨w.heap.size, 1, none⟩).isSome = true := by (rw [hc _ _ (by first | omega | (simp; done) | (simp; omega))]; (try simp only [isSome_setCell]); first | assumption | go_simp)); (try have iso : (w1.cell? ⟨w.heap.size + 1, 0, none⟩).isSome = true := by (rw [hc _ _ (by first | omega | (simp; done) | (simp; omega))]; (try simp only [isSome_setCell]); first | assumption | go_simp)); (try have iso : (w1.cell? ⟨w.heap.size + 1, 1, none⟩).isSome = true := by (rw [hc _ _ (by first | omega | (simp; done) | (simp; omega))]; (try simp only [isSome_setCell]); first | assumption | go_simp)); (try have iso : (w1.cell? ⟨w.heap.size + 1 + 1, 0, none⟩).isSome = true := by (rw [hc _ _ (by first | omega | (simp; done) | (simp; omega))]; (try simp only [isSome_setCell]); first | assumption | go_simp)); (try have iso : (w1.cell? ⟨w.heap.size + 1 + 1, 1, none⟩).isSome = true := by (rw [hc _ _ (by first | omega | (simp; done) | (simp; omega))]; (try simp only [isSome_setCell]); first | assumption | go_simp)))
    go_ret
    exact ⟨rfl, by (repeat first | with_reducible exact Below.refl _ _ | with_reducible assumption | (with_reducible refine Below.setCell ?_ ?_ _; rotate_left; exact (by first | omega | (simp; done) | (simp; omega))) | (with_reducible refine Below.alloc ?_ ?_ _; rotate_left; exact (by first | omega | (simp; done) | (simp; omega))) | with_reducible refine Below.drew ?_ | with_reducible refine Below_drewN ?_ _)⟩
  · have e : itoa n = decDigits n.toNat := by
      unfold itoa
      rw [if_neg hn]
    rw [e]
    exact digits_pos n w (by omega) h1


set_option maxHeartbeats 400000 in
theorem within_any (n : Int) (w : World) :
    Calls Tryd.prog 23 #[.int .i64 n] w fun e w' => e = .returned (.bool (inR n)) ∧ w = w' := by
  go_enter Tryd.func23, Tryd.ntmps23
  go_wp2
  all_goals go_ret
  all_goals (simp [inR]; try omega)

set_option maxHeartbeats 400000 in
theorem rvalid_any (lo hi : Int) (w : World) :
    Calls Tryd.prog 14 #[Sp lo hi] w (Ret (.bool (vld lo hi)) w) := by
  go_enter Tryd.func14, Tryd.ntmps14
  go_wp2_with (go_at_call 23; refine (within_any _ _).mono ?_; rintro e w' ⟨rfl, rfl⟩)
  all_goals go_ret
  all_goals exact ⟨by simp [vld, *] <;> omega, by (repeat first | with_reducible exact Below.refl _ _ | with_reducible assumption | (with_reducible refine Below.setCell ?_ ?_ _; rotate_left; exact (by first | omega | (simp; done) | (simp; omega))) | (with_reducible refine Below.alloc ?_ ?_ _; rotate_left; exact (by first | omega | (simp; done) | (simp; omega))) | with_reducible refine Below.drew ?_ | with_reducible refine Below_drewN ?_ _)⟩

set_option maxHeartbeats 4000000 in
theorem rformat_any (a b : Int) (w : World) : Calls Tryd.prog 8 #[Sp a b] w (Ret (Str (fmtV a b)) w) := by
  by_cases v1 : vld a b = true
  · have o := vld_iff.1 v1
    have e : fmtV a b = fmtL a b := by unfold fmtV; rw [if_pos v1]
    rw [e]
    clear e
    have la := itoa_short (n := a) (by omega) (by omega)
    have lb := itoa_short (n := b) (by omega) (by omega)
    have q1 := add_lists (itoa a) [46, 46] (by simp; omega)
    have q2 : ∀ W : World, (Op.stringOp .add ⟨(itoa a ++ [46, 46]).toArray⟩ ⟨(itoa b).toArray⟩).run Tryd.prog W = .ok (.string ⟨(fmtL a b).toArray⟩) W := add_lists (itoa a ++ [46, 46]) (itoa b) (by simp; omega)
    have C : ∀ (c : Int) (W : World), -1000000000000000 ≤ c → c ≤ 1000000000000000 → Calls Tryd.prog 16 #[.int .i64 c] W (Ret (.string ⟨(itoa c).toArray⟩) W) := fun c W => digits_any c W
    go_enter Tryd.func8, Tryd.ntmps8
    go_wp2_with (go_at_call 14; refine (rvalid_any _ _ _).mono ?_; rintro e w1 ⟨rfl, hb⟩; have hB : Below w.heap.size w w1 := Below.trans (by (repeat first | with_reducible exact Below.refl _ _ | with_reducible assumption | (with_reducible refine Below.setCell ?_ ?_ _; rotate_left; exact (by first | omega | (simp; done) | (simp; omega))) | (with_reducible refine Below.alloc ?_ ?_ _; rotate_left; exact (by first | omega | (simp; done) | (simp; omega))) | with_reducible refine Below.drew ?_ | with_reducible refine Below_drewN ?_ _)) (hb.mono (by first | omega | (simp; done) | (simp; omega))); obtain ⟨hc, hf⟩ := bcell hb; have hs := hb.size; clear hb; (try simp only [World.size_alloc, World.size_setCell] at hc hf); (try simp only [World.size_alloc, World.size_setCell] at hs); (try have hs' := Nat.lt_of_succ_le hs); (try have hs0 : w.heap.size < w1.heap.size := by omega); (try have hs1 : w.heap.size + 1 < w1.heap.size := by omega); (try have hs2 : w.heap.size + 1 + 1 < w1.heap.size := by omega); (try have hs3 : w.heap.size + 1 + 1 + 1 < w1.heap.size := by omega); (try have iso : (w1.cell? ⟨w.heap.size, 0, none⟩).isSome = true := by (rw [hc _ _ (by first | omega | (simp; done) | (simp; omega))]; (try simp only [isSome_setCell]); first | assumption | go_simp)); (try have iso : (w1.cell? ⟨w.heap.size, 1, none⟩).isSome = true := by (rw [hc _ _ (by first | omega | (simp; done) | (simp; omega))]; (try simp only [isSome_setCell]); first | assumption | go_simp)); (try have iso : (w1.cell? ⟨w.heap.size + 1, 0, none⟩).isSome = true := by (rw [hc _ _ (by first | omega | (simp; done) | (simp; omega))]; (try simp only [isSome_setCell]); first | assumption | go_simp)); (try have iso : (w1.cell? ⟨w.heap.size + 1, 1, none⟩).isSome = true := by (rw [hc _ _ (by first | omega | (simp; done) | (simp; omega))]; (try simp only [isSome_setCell]); first | assumption | go_simp)); (try have iso : (w1.cell? ⟨w.heap.size + 1 + 1, 0, none⟩).isSome = true := by (rw [hc _ _ (by first | omega | (simp; done) | (simp; omega))]; (try simp only [isSome_setCell]); first | assumption | go_simp)); (try have iso : (w1.cell? ⟨w.heap.size + 1 + 1, 1, none⟩).isSome = true := by (rw [hc _ _ (by first | omega | (simp; done) | (simp; omega))]; (try simp only [isSome_setCell]); first | assumption | go_simp)))
    obtain ⟨w0, rfl⟩ : ∃ w0 : World, w0 = w1 := ⟨_, rfl⟩
    have HS : Hid (∀ w' : World, Reg (w0.heap.size) (w0) w' → (Reg (w0.heap.size) (w0) w' ∧ w'.cell? ⟨w.heap.size, 0, none⟩ = some (.int .i64 a) ∧ w'.cell? ⟨w.heap.size, 1, none⟩ = some (.int .i64 b))) := (fun w' h => by (have hc := h.cells; have hs := h.some; have hf := h.frozen; refine ⟨h, ?_⟩; (try simp only [World.size_alloc, World.size_setCell, size_drew, size_drewN] at hc hs hf); first | (simp (disch := omega) only [hc, hs, hf, cur_iff]; (try go_simp); done) | (simp (disch := first | omega | (simp; done)) only [hc, hs, hf, cur_iff]; (try go_simp); done) | (simp (maxDischargeDepth := 4) [hc, hs, hf, cur_iff, go_sem]; done) | (go_simp; done) | (simp (maxDischargeDepth := 4) [hc, hs, hf, cur_iff, go_sem]; go_simp))); go_region_held3 (fun w' => Reg (w0.heap.size) (w0) w' ∧ w'.cell? ⟨w.heap.size, 0, none⟩ = some (.int .i64 a) ∧ w'.cell? ⟨w.heap.size, 1, none⟩ = some (.int .i64 b)) (exact HS.out _ (by (repeat first | with_reducible exact Reg.refl _ _ | with_reducible exact Reg.drewN2 _ _ _ _ | with_reducible exact (‹Reg _ _ _ ∧ _›).1 | (with_reducible refine Reg.setCell ?_ ?_ _; rotate_left; exact (by first | omega | ((try simp only [World.size_alloc, World.size_setCell, size_drew, size_drewN]); omega) | (simp; done) | (simp; omega))) | with_reducible refine Reg.alloc ?_ _ | with_reducible refine Reg.drew ?_ | with_reducible refine Reg.drewN ?_ _ | (with_reducible apply Reg.call; rotate_left; with_reducible assumption)))) (first | (go_at_call 16; refine (C _ _ (by omega) (by omega)).mono ?_; rintro e w1 ⟨rfl, hb⟩; (first | (with_reducible have hk := Nat.lt_of_lt_of_le (size_alloc_lt _ _) hb.size) | (with_reducible have hk := Nat.lt_of_lt_of_le (size_alloc_drew_lt _ _) hb.size) | (with_reducible have hk := Nat.lt_of_lt_of_le hk hb.size) | skip); (try simp only [World.size_alloc, World.size_setCell, size_drew, size_drewN] at hk); obtain ⟨hc, hf⟩ := bcell hb; have hs := hb.size; (try simp only [World.size_alloc, World.size_setCell, size_drew, size_drewN] at hs)))
    all_goals go_wp2
    all_goals go_ret
    all_goals exact ⟨rfl, (Reg.out (‹Reg _ _ _ ∧ _›).1 (by (repeat first | with_reducible exact Below.refl _ _ | with_reducible assumption | (with_reducible refine Below.setCell ?_ ?_ _; rotate_left; exact (by first | omega | (simp; done) | (simp; omega))) | (with_reducible refine Below.alloc ?_ ?_ _; rotate_left; exact (by first | omega | (simp; done) | (simp; omega))) | with_reducible refine Below.drew ?_ | with_reducible refine Below_drewN ?_ _)) (by first | omega | (simp; done) | (simp; omega)))⟩
  · have e : fmtV a b = [] := by unfold fmtV; rw [if_neg v1]
    rw [e]
    clear e
    go_enter Tryd.func8, Tryd.ntmps8
    go_wp2_with (go_at_call 14; refine (rvalid_any _ _ _).mono ?_; rintro e w1 ⟨rfl, hb⟩; have hB : Below w.heap.size w w1 := Below.trans (by (repeat first | with_reducible exact Below.refl _ _ | with_reducible assumption | (with_reducible refine Below.setCell ?_ ?_ _; rotate_left; exact (by first | omega | (simp; done) | (simp; omega))) | (with_reducible refine Below.alloc ?_ ?_ _; rotate_left; exact (by first | omega | (simp; done) | (simp; omega))) | with_reducible refine Below.drew ?_ | with_reducible refine Below_drewN ?_ _)) (hb.mono (by first | omega | (simp; done) | (simp; omega))); obtain ⟨hc, hf⟩ := bcell hb; have hs := hb.size; clear hb; (try simp only [World.size_alloc, World.size_setCell] at hc hf); (try simp only [World.size_alloc, World.size_setCell] at hs); (try have hs' := Nat.lt_of_succ_le hs); (try have hs0 : w.heap.size < w1.heap.size := by omega); (try have hs1 : w.heap.size + 1 < w1.heap.size := by omega); (try have hs2 : w.heap.size + 1 + 1 < w1.heap.size := by omega); (try have hs3 : w.heap.size + 1 + 1 + 1 < w1.heap.size := by omega); (try have iso : (w1.cell? ⟨w.heap.size, 0, none⟩).isSome = true := by (rw [hc _ _ (by first | omega | (simp; done) | (simp; omega))]; (try simp only [isSome_setCell]); first | assumption | go_simp)); (try have iso : (w1.cell? ⟨w.heap.size, 1, none⟩).isSome = true := by (rw [hc _ _ (by first | omega | (simp; done) | (simp; omega))]; (try simp only [isSome_setCell]); first | assumption | go_simp)); (try have iso : (w1.cell? ⟨w.heap.size + 1, 0, none⟩).isSome = true := by (rw [hc _ _ (by first | omega | (simp; done) | (simp; omega))]; (try simp only [isSome_setCell]); first | assumption | go_simp)); (try have iso : (w1.cell? ⟨w.heap.size + 1, 1, none⟩).isSome = true := by (rw [hc _ _ (by first | omega | (simp; done) | (simp; omega))]; (try simp only [isSome_setCell]); first | assumption | go_simp)); (try have iso : (w1.cell? ⟨w.heap.size + 1 + 1, 0, none⟩).isSome = true := by (rw [hc _ _ (by first | omega | (simp; done) | (simp; omega))]; (try simp only [isSome_setCell]); first | assumption | go_simp)); (try have iso : (w1.cell? ⟨w.heap.size + 1 + 1, 1, none⟩).isSome = true := by (rw [hc _ _ (by first | omega | (simp; done) | (simp; omega))]; (try simp only [isSome_setCell]); first | assumption | go_simp)))
    go_ret
    exact ⟨rfl, by (repeat first | with_reducible exact Below.refl _ _ | with_reducible assumption | (with_reducible refine Below.setCell ?_ ?_ _; rotate_left; exact (by first | omega | (simp; done) | (simp; omega))) | (with_reducible refine Below.alloc ?_ ?_ _; rotate_left; exact (by first | omega | (simp; done) | (simp; omega))) | with_reducible refine Below.drew ?_ | with_reducible refine Below_drewN ?_ _)⟩

end Go.Proofs.YtgfajfepmflfhaaDoor
