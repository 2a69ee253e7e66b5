/- The specification's whole numbers of any length: the contract of Int, over this seat's translation. -/
import Derived.Test.YtgfajfepmflfhaaBigL
import Derived.Deep.RegionHeld3
import Derived.Deep.DeepCutAuto
namespace Go.Proofs.Ytgfajfepmflfhaa
set_option linter.unusedVariables false
set_option linter.unusedSimpArgs false
open Go.RowKit

/-- A number as an int, if it has at most 18 digits. -/
def intL (z : Int) : Int × Bool := if max z (-z) < 1000000000000000000 then (z, true) else (0, false)

theorem drop_step (P : List Int) (k : Nat) (hk : k < P.length) : val (P.drop k) = P.getD k 0 + 10000 * val (P.drop (k + 1)) := by
  rw [List.drop_eq_getElem_cons hk, List.getD_eq_getElem?_getD, List.getElem?_eq_getElem hk]
  rfl
theorem drop_le {P : List Int} (hP : Digs P) (k : Nat) : 0 ≤ val (P.drop k) ∧ val (P.drop k) ≤ val P := by
  have h0 := val_bound (l := P.drop k) (fun x hx => hP x (List.mem_of_mem_drop hx))
  have h1 := val_bound (l := P.take k) (fun x hx => hP x (List.mem_of_mem_take hx))
  have e := val_append (P.take k) (P.drop k)
  rw [List.take_append_drop] at e
  have := Int.mul_le_mul_of_nonneg_right (pw_pos (P.take k).length) h0.1
  omega

set_option maxRecDepth 100000 in
set_option maxHeartbeats 8000000 in
theorem int_any (z : Int) (u : Value) (w : World) (h : BigV w u z) :
    Calls Try.prog 37 #[u] w (fun e w' => e = .returned (.tuple #[.int .i64 (intL z).1, .bool (intL z).2]) ∧ Below w.heap.size w w') := by
  have HU := Lib.hid (fun W (hb : Below w.heap.size w W) => h.below hb)
  obtain ⟨A, n, cap, P, rfl, h1, h2, h3, h4, h5⟩ := h
  have HI := Lib.hid h1
  have LP := Lib.hid h1.1
  have HP := Lib.hid h4
  have HV := Lib.hid h5
  clear h1 h4 h5
  obtain ⟨neg, hneg⟩ : ∃ b, decide (z < 0) = b := ⟨_, rfl⟩
  rw [hneg] at HU
  have HN := Lib.hid hneg
  rw [hneg]
  clear hneg
  by_cases hbig : max z (-z) < 1000000000000000000
  · have e : intL z = (z, true) := by unfold intL; rw [if_pos hbig]
    rw [e]
    have hc : cmpA (max z (-z)) (max 1000000000000000000 (-1000000000000000000)) = -1 := by
      rw [show max (1000000000000000000 : Int) (-1000000000000000000) = 1000000000000000000 by omega]
      unfold cmpA; rw [if_neg (by omega), if_pos hbig]
    have HL := Lib.hid (fun W u v hu hv => (show Calls Try.prog 51 #[u, v] W (fun e w' => e = .returned (.int .i64 (-1)) ∧ Below W.heap.size W w') by have := larger_big z 1000000000000000000 u v W hu hv; rwa [hc] at this))
    have hb18 : val P < 1000000000000000000 := by rw [HV.out]; exact hbig
    have HB := Lib.hid hb18
    clear e hc hbig hb18
    go_enter Try.func37, Try.ntmps37
    go_upto_region 1 with fail
    go_cut [9] (fun s9 wx => s9 = .bool false ∧ wx.cell? ⟨w.heap.size, 0, none⟩ = some (.bool neg) ∧ wx.cell? ⟨w.heap.size, 1, none⟩ = some (.slice A n cap) ∧ Below w.heap.size w wx)
    case first =>
      have HS : Hid (∀ w' : World, Reg (w.heap.size + 1) (w.alloc (.cells #[.bool neg, .slice A n cap] 41)) w' → (Reg (w.heap.size + 1) (w.alloc (.cells #[.bool neg, .slice A n cap] 41)) w' ∧ w'.cell? ⟨w.heap.size, 0, none⟩ = some (.bool neg) ∧ w'.cell? ⟨w.heap.size, 1, none⟩ = some (.slice A n cap))) := (fun w' h => by (have hc := h.cells; have hs := h.some; have hf := h.frozen; refine ⟨h, ?_⟩; (try simp only [World.size_alloc, World.size_setCell, size_drew, size_drewN] at hc hs hf); first | (simp (disch := omega) only [hc, hs, hf, cur_iff]; (try go_simp); done) | (simp (disch := first | omega | (simp; done)) only [hc, hs, hf, cur_iff]; (try go_simp); done) | (simp (maxDischargeDepth := 4) [hc, hs, hf, cur_iff, go_sem]; done) | (go_simp; done) | (simp (maxDischargeDepth := 4) [hc, hs, hf, cur_iff, go_sem]; go_simp))); go_region_held3 (fun w' => Reg (w.heap.size + 1) (w.alloc (.cells #[.bool neg, .slice A n cap] 41)) w' ∧ w'.cell? ⟨w.heap.size, 0, none⟩ = some (.bool neg) ∧ w'.cell? ⟨w.heap.size, 1, none⟩ = some (.slice A n cap)) (exact HS.out _ (by (repeat first | with_reducible exact Reg.refl _ _ | with_reducible exact Reg.drewN2 _ _ _ _ | with_reducible exact (‹Reg _ _ _ ∧ _›).1 | (with_reducible refine Reg.setCell ?_ ?_ _; rotate_left; exact (by first | omega | ((try simp only [World.size_alloc, World.size_setCell, size_drew, size_drewN]); omega) | (simp; done) | (simp; omega))) | with_reducible refine Reg.alloc ?_ _ | with_reducible refine Reg.drew ?_ | with_reducible refine Reg.drewN ?_ _ | (with_reducible apply Reg.call; rotate_left; with_reducible assumption)))) (first | (go_at_call 21; refine (of_pos 1000000000000000000 _ (by omega) (by omega)).mono ?_; rintro e w1 ⟨v1, rfl, hv1, hb⟩; (first | (with_reducible have hk := Nat.lt_of_lt_of_le (size_alloc_lt _ _) hb.size) | (with_reducible have hk := Nat.lt_of_lt_of_le (size_alloc_drew_lt _ _) hb.size) | (with_reducible have hk := Nat.lt_of_lt_of_le hk hb.size) | skip); (try simp only [World.size_alloc, World.size_setCell, size_drew, size_drewN] at hk); obtain ⟨hc, hf⟩ := bcell hb; have hs := hb.size; (try simp only [World.size_alloc, World.size_setCell, size_drew, size_drewN] at hs)) | (go_at_call 51; refine (HL.out _ _ _ (HU.out _ (Reg.out (‹Reg _ _ _ ∧ _›).1 (by (repeat first | with_reducible exact Below.refl _ _ | with_reducible assumption | (with_reducible refine Below.setCell ?_ ?_ _; rotate_left; exact (by first | omega | (simp; done) | (simp; omega))) | (with_reducible refine Below.alloc ?_ ?_ _; rotate_left; exact (by first | omega | (simp; done) | (simp; omega))) | with_reducible refine Below.drew ?_ | with_reducible refine Below_drewN ?_ _)) (by first | omega | (simp; done) | (simp; omega)))) hv1).mono ?_; rintro e w1 ⟨rfl, hb⟩; (first | (with_reducible have hk := Nat.lt_of_lt_of_le (size_alloc_lt _ _) hb.size) | (with_reducible have hk := Nat.lt_of_lt_of_le (size_alloc_drew_lt _ _) hb.size) | (with_reducible have hk := Nat.lt_of_lt_of_le hk hb.size) | skip); (try simp only [World.size_alloc, World.size_setCell, size_drew, size_drewN] at hk); obtain ⟨hc, hf⟩ := bcell hb; have hs := hb.size; (try simp only [World.size_alloc, World.size_setCell, size_drew, size_drewN] at hs)))
      all_goals go_wp2_with fail
      all_goals go_meet
      all_goals
        have hH := ‹Reg _ _ _ ∧ _›
        exact ⟨rfl, hH.2.1, hH.2.2, (Reg.out (‹Reg _ _ _ ∧ _›).1 (by (repeat first | with_reducible exact Below.refl _ _ | with_reducible assumption | (with_reducible refine Below.setCell ?_ ?_ _; rotate_left; exact (by first | omega | (simp; done) | (simp; omega))) | (with_reducible refine Below.alloc ?_ ?_ _; rotate_left; exact (by first | omega | (simp; done) | (simp; omega))) | with_reducible refine Below.drew ?_ | with_reducible refine Below_drewN ?_ _)) (by first | omega | (simp; done) | (simp; omega)))⟩
    case rest =>
      obtain ⟨rfl, t0, t1, hB⟩ := hcut
      go_wp2_with fail
      go_loopw [4, 5] (fun s i wr => ∃ k : Nat, k ≤ n ∧ i = .int .i64 ((k : Int) - 1) ∧ s = .int .i64 (val (P.drop k)) ∧ wr.cell? ⟨w.heap.size, 0, none⟩ = some (.bool neg) ∧ wr.cell? ⟨w.heap.size, 1, none⟩ = some (.slice A n cap) ∧ Below w.heap.size w wr) (fun _ i _ => (intOf i + 1).toNat)
      case atStart => exact ⟨n, Nat.le_refl _, rfl, (by rw [List.drop_of_length_le (by rw [LP.out]; exact Nat.le_refl _)]; rfl), t0, t1, hB⟩
      case round =>
        clear t0 t1 hB
        obtain ⟨k, hk, hi, hs, t0, t1, hB⟩ := hrel
        rcases k with _ | k
        · rw [show ((0 : Nat) : Int) - 1 = -1 by omega] at hi
          rw [List.drop_zero, HV.out] at hs
          subst hi hs
          cases neg
          · have hz : max z (-z) = z := by have := HN.out; simp at this; omega
            rw [hz]
            have HZ := Lib.hid hz
            clear hz
            go_wp2
            go_ret2
            exact ⟨rfl, hB⟩
          · have hz : max z (-z) = -z := by have := HN.out; simp at this; omega
            have hb := HB.out
            rw [HV.out, hz] at hb
            have hz0 : z < 0 := by have := HN.out; simpa using this
            rw [hz]
            have HZ := Lib.hid hz
            clear hz
            go_wp2
            go_ret2
            exact ⟨by simp, hB⟩
        · rw [show ((k + 1 : Nat) : Int) - 1 = k by omega] at hi
          subst hi hs
          obtain ⟨a, ao, rfl, _, ha, hcP⟩ := HI.out.2 (by omega)
          have p0 := (hB.cell (p := ⟨a, ao + k, none⟩) ha).trans (hcP k (by omega))
          have hd := drop_step P k (by rw [LP.out]; omega)
          have d1 := drop_le HP.out.1 (k + 1)
          have d0 := drop_le HP.out.1 k
          have hb := HB.out
          have dg := digs_getD HP.out.1 k
          clear hcP
          generalize P.getD k 0 = dp at *
          generalize val (P.drop (k + 1)) = r at *
          have HD := Lib.hid hd
          have q1 : 10000 * r + dp < 1000000000000000000 := by omega
          obtain ⟨d2, d3⟩ := d1
          obtain ⟨g1, g2⟩ := dg
          have k0 : (0 : Int) ≤ k := by omega
          have k1 : (k : Int) < n := by omega
          clear hd d0 hb
          go_wp2
          go_roundw
          case rel => exact ⟨k, by omega, rfl, by rw [HD.out]; go_num, t0, t1, hB⟩
          case measure => first | (simp [intOf]; done) | (simp [intOf]; omega)
  · have e : intL z = (0, false) := by unfold intL; rw [if_neg hbig]
    rw [e]
    have hc : 0 ≤ cmpA (max z (-z)) (max 1000000000000000000 (-1000000000000000000)) := by
      rw [show max (1000000000000000000 : Int) (-1000000000000000000) = 1000000000000000000 by omega]
      unfold cmpA
      (repeat' split) <;> omega
    obtain ⟨c, hce⟩ : ∃ c, cmpA (max z (-z)) (max 1000000000000000000 (-1000000000000000000)) = c := ⟨_, rfl⟩
    rw [hce] at hc
    have HL := Lib.hid (fun W u v hu hv => (show Calls Try.prog 51 #[u, v] W (fun e w' => e = .returned (.int .i64 c) ∧ Below W.heap.size W w') by have := larger_big z 1000000000000000000 u v W hu hv; rwa [hce] at this))
    clear e hce hbig
    go_enter Try.func37, Try.ntmps37
    go_upto_region 1 with fail
    go_cut [9] (fun s9 wx => s9 = .bool true ∧ Below w.heap.size w wx)
    case first =>
      have HS : Hid (∀ w' : World, Reg (w.heap.size + 1) (w.alloc (.cells #[.bool neg, .slice A n cap] 41)) w' → (Reg (w.heap.size + 1) (w.alloc (.cells #[.bool neg, .slice A n cap] 41)) w' ∧ w'.cell? ⟨w.heap.size, 0, none⟩ = some (.bool neg) ∧ w'.cell? ⟨w.heap.size, 1, none⟩ = some (.slice A n cap))) := (fun w' h => by (have hc := h.cells; have hs := h.some; have hf := h.frozen; refine ⟨h, ?_⟩; (try simp only [World.size_alloc, World.size_setCell, size_drew, size_drewN] at hc hs hf); first | (simp (disch := omega) only [hc, hs, hf, cur_iff]; (try go_simp); done) | (simp (disch := first | omega | (simp; done)) only [hc, hs, hf, cur_iff]; (try go_simp); done) | (simp (maxDischargeDepth := 4) [hc, hs, hf, cur_iff, go_sem]; done) | (go_simp; done) | (simp (maxDischargeDepth := 4) [hc, hs, hf, cur_iff, go_sem]; go_simp))); go_region_held3 (fun w' => Reg (w.heap.size + 1) (w.alloc (.cells #[.bool neg, .slice A n cap] 41)) w' ∧ w'.cell? ⟨w.heap.size, 0, none⟩ = some (.bool neg) ∧ w'.cell? ⟨w.heap.size, 1, none⟩ = some (.slice A n cap)) (exact HS.out _ (by (repeat first | with_reducible exact Reg.refl _ _ | with_reducible exact Reg.drewN2 _ _ _ _ | with_reducible exact (‹Reg _ _ _ ∧ _›).1 | (with_reducible refine Reg.setCell ?_ ?_ _; rotate_left; exact (by first | omega | ((try simp only [World.size_alloc, World.size_setCell, size_drew, size_drewN]); omega) | (simp; done) | (simp; omega))) | with_reducible refine Reg.alloc ?_ _ | with_reducible refine Reg.drew ?_ | with_reducible refine Reg.drewN ?_ _ | (with_reducible apply Reg.call; rotate_left; with_reducible assumption)))) (first | (go_at_call 21; refine (of_pos 1000000000000000000 _ (by omega) (by omega)).mono ?_; rintro e w1 ⟨v1, rfl, hv1, hb⟩; (first | (with_reducible have hk := Nat.lt_of_lt_of_le (size_alloc_lt _ _) hb.size) | (with_reducible have hk := Nat.lt_of_lt_of_le (size_alloc_drew_lt _ _) hb.size) | (with_reducible have hk := Nat.lt_of_lt_of_le hk hb.size) | skip); (try simp only [World.size_alloc, World.size_setCell, size_drew, size_drewN] at hk); obtain ⟨hc, hf⟩ := bcell hb; have hs := hb.size; (try simp only [World.size_alloc, World.size_setCell, size_drew, size_drewN] at hs)) | (go_at_call 51; refine (HL.out _ _ _ (HU.out _ (Reg.out (‹Reg _ _ _ ∧ _›).1 (by (repeat first | with_reducible exact Below.refl _ _ | with_reducible assumption | (with_reducible refine Below.setCell ?_ ?_ _; rotate_left; exact (by first | omega | (simp; done) | (simp; omega))) | (with_reducible refine Below.alloc ?_ ?_ _; rotate_left; exact (by first | omega | (simp; done) | (simp; omega))) | with_reducible refine Below.drew ?_ | with_reducible refine Below_drewN ?_ _)) (by first | omega | (simp; done) | (simp; omega)))) hv1).mono ?_; rintro e w1 ⟨rfl, hb⟩; (first | (with_reducible have hk := Nat.lt_of_lt_of_le (size_alloc_lt _ _) hb.size) | (with_reducible have hk := Nat.lt_of_lt_of_le (size_alloc_drew_lt _ _) hb.size) | (with_reducible have hk := Nat.lt_of_lt_of_le hk hb.size) | skip); (try simp only [World.size_alloc, World.size_setCell, size_drew, size_drewN] at hk); obtain ⟨hc, hf⟩ := bcell hb; have hs := hb.size; (try simp only [World.size_alloc, World.size_setCell, size_drew, size_drewN] at hs)))
      all_goals go_wp2_with fail
      all_goals go_meet
      all_goals
        have hH := ‹Reg _ _ _ ∧ _›
        exact ⟨by simp, (Reg.out (‹Reg _ _ _ ∧ _›).1 (by (repeat first | with_reducible exact Below.refl _ _ | with_reducible assumption | (with_reducible refine Below.setCell ?_ ?_ _; rotate_left; exact (by first | omega | (simp; done) | (simp; omega))) | (with_reducible refine Below.alloc ?_ ?_ _; rotate_left; exact (by first | omega | (simp; done) | (simp; omega))) | with_reducible refine Below.drew ?_ | with_reducible refine Below_drewN ?_ _)) (by first | omega | (simp; done) | (simp; omega)))⟩
    case rest =>
      obtain ⟨rfl, hB⟩ := hcut
      go_wp2
      go_ret2
      exact ⟨rfl, hB⟩

end Go.Proofs.Ytgfajfepmflfhaa
