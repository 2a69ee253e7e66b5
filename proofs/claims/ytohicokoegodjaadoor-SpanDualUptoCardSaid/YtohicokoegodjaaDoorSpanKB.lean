/- Package span: contracts of the steps of And and Or, and of fold over a list of truths, over this seat's translation. -/
import Derived.Test.YtohicokoegodjaaDoorSpanK
namespace Go.Proofs.YtohicokoegodjaaDoor
set_option linter.unusedVariables false
set_option linter.unusedSimpArgs false
open Go.RowKit

set_option maxHeartbeats 1000000 in
theorem and1_key (a b : Nat) (i x : Int) (w : World) (ha : a < 3) (hb' : b < 3) (hT : Tabs w) (ht : tr x = b) :
    Calls Tryd.prog 27 #[.int .i64 a, .int .i64 i, .int .i64 x] w (Ret (.int .i64 (andL a b)) w) := by
  have hc := hT.and a b ha hb'
  have hz := hT.size
  have a3 : (a : Int) < 3 := by omega
  have b3 : (b : Int) < 3 := by omega
  have a0 : 0 ≤ (a : Int) := by omega
  have b0 : 0 ≤ (b : Int) := by omega
  have HT := Lib.hid ht
  clear ht hT
  generalize andL a b = v at *
  go_enter Tryd.func27, Tryd.ntmps27
  go_wp2_with fail
  have HS : Hid (∀ w' : World, Reg (w.heap.size) (w) w' → (Reg (w.heap.size) (w) w' ∧ w'.cell? ⟨0, a * 3 + b, none⟩ = some (.int .i64 v))) := (fun w' h => by (have hc := h.cells; have hs := h.some; have hf := h.frozen; refine ⟨h, ?_⟩; (try simp only [World.size_alloc, World.size_setCell, size_drew, size_drewN] at hc hs hf); first | (simp (disch := omega) only [hc, hs, hf, cur_iff]; (try go_simp); done) | (simp (disch := first | omega | (simp; done)) only [hc, hs, hf, cur_iff]; (try go_simp); done) | (simp (maxDischargeDepth := 4) [hc, hs, hf, cur_iff, go_sem]; done) | (go_simp; done) | (simp (maxDischargeDepth := 4) [hc, hs, hf, cur_iff, go_sem]; go_simp))); go_region_held3 (fun w' => Reg (w.heap.size) (w) w' ∧ w'.cell? ⟨0, a * 3 + b, none⟩ = some (.int .i64 v)) (exact HS.out _ (by (repeat first | with_reducible exact Reg.refl _ _ | with_reducible exact Reg.drewN2 _ _ _ _ | with_reducible exact (‹Reg _ _ _ ∧ _›).1 | (with_reducible refine Reg.setCell ?_ ?_ _; rotate_left; exact (by first | omega | ((try simp only [World.size_alloc, World.size_setCell, size_drew, size_drewN]); omega) | (simp; done) | (simp; omega))) | with_reducible refine Reg.alloc ?_ _ | with_reducible refine Reg.drew ?_ | with_reducible refine Reg.drewN ?_ _ | (with_reducible apply Reg.call; rotate_left; with_reducible assumption)))) (first | (go_at_call 28; refine (known_any _ _).mono ?_; rintro e w1 ⟨rfl, rfl⟩; rw [HT.out]))
  go_wp2
  go_ret
  exact ⟨rfl, by (repeat first | with_reducible exact Below.refl _ _ | with_reducible assumption | (with_reducible refine Below.setCell ?_ ?_ _; rotate_left; exact (by first | omega | (simp; done) | (simp; omega))) | (with_reducible refine Below.alloc ?_ ?_ _; rotate_left; exact (by first | omega | (simp; done) | (simp; omega))) | with_reducible refine Below.drew ?_ | with_reducible refine Below_drewN ?_ _)⟩

theorem and1_any (s i x : Int) (w : World) (hs : s = 0 ∨ s = 1 ∨ s = 2) (hT : Tabs w) :
    Calls Tryd.prog 27 #[.int .i64 s, .int .i64 i, .int .i64 x] w (Ret (.int .i64 (andL s (tr x))) w) := by
  have hx : tr x = 0 ∨ tr x = 1 ∨ tr x = 2 := by
    rcases tr_cases x with ⟨_, h⟩ | ⟨_, h⟩ | ⟨_, _, h⟩
    · exact .inl h
    · exact .inr (.inl h)
    · exact .inr (.inr h)
  rcases hs with rfl | rfl | rfl <;> rcases hx with h | h | h <;> rw [h]
  · exact and1_key 0 0 i x w (by omega) (by omega) hT h
  · exact and1_key 0 1 i x w (by omega) (by omega) hT h
  · exact and1_key 0 2 i x w (by omega) (by omega) hT h
  · exact and1_key 1 0 i x w (by omega) (by omega) hT h
  · exact and1_key 1 1 i x w (by omega) (by omega) hT h
  · exact and1_key 1 2 i x w (by omega) (by omega) hT h
  · exact and1_key 2 0 i x w (by omega) (by omega) hT h
  · exact and1_key 2 1 i x w (by omega) (by omega) hT h
  · exact and1_key 2 2 i x w (by omega) (by omega) hT h

set_option maxHeartbeats 1000000 in
theorem or1_key (a b : Nat) (i x : Int) (w : World) (ha : a < 3) (hb' : b < 3) (hT : Tabs w) (ht : tr x = b) :
    Calls Tryd.prog 30 #[.int .i64 a, .int .i64 i, .int .i64 x] w (Ret (.int .i64 (orL a b)) w) := by
  have hc := hT.or a b ha hb'
  have hz := hT.size
  have a3 : (a : Int) < 3 := by omega
  have b3 : (b : Int) < 3 := by omega
  have a0 : 0 ≤ (a : Int) := by omega
  have b0 : 0 ≤ (b : Int) := by omega
  have HT := Lib.hid ht
  clear ht hT
  generalize orL a b = v at *
  go_enter Tryd.func30, Tryd.ntmps30
  go_wp2_with fail
  have HS : Hid (∀ w' : World, Reg (w.heap.size) (w) w' → (Reg (w.heap.size) (w) w' ∧ w'.cell? ⟨1, a * 3 + b, none⟩ = some (.int .i64 v))) := (fun w' h => by (have hc := h.cells; have hs := h.some; have hf := h.frozen; refine ⟨h, ?_⟩; (try simp only [World.size_alloc, World.size_setCell, size_drew, size_drewN] at hc hs hf); first | (simp (disch := omega) only [hc, hs, hf, cur_iff]; (try go_simp); done) | (simp (disch := first | omega | (simp; done)) only [hc, hs, hf, cur_iff]; (try go_simp); done) | (simp (maxDischargeDepth := 4) [hc, hs, hf, cur_iff, go_sem]; done) | (go_simp; done) | (simp (maxDischargeDepth := 4) [hc, hs, hf, cur_iff, go_sem]; go_simp))); go_region_held3 (fun w' => Reg (w.heap.size) (w) w' ∧ w'.cell? ⟨1, a * 3 + b, none⟩ = some (.int .i64 v)) (exact HS.out _ (by (repeat first | with_reducible exact Reg.refl _ _ | with_reducible exact Reg.drewN2 _ _ _ _ | with_reducible exact (‹Reg _ _ _ ∧ _›).1 | (with_reducible refine Reg.setCell ?_ ?_ _; rotate_left; exact (by first | omega | ((try simp only [World.size_alloc, World.size_setCell, size_drew, size_drewN]); omega) | (simp; done) | (simp; omega))) | with_reducible refine Reg.alloc ?_ _ | with_reducible refine Reg.drew ?_ | with_reducible refine Reg.drewN ?_ _ | (with_reducible apply Reg.call; rotate_left; with_reducible assumption)))) (first | (go_at_call 28; refine (known_any _ _).mono ?_; rintro e w1 ⟨rfl, rfl⟩; rw [HT.out]))
  go_wp2
  go_ret
  exact ⟨rfl, by (repeat first | with_reducible exact Below.refl _ _ | with_reducible assumption | (with_reducible refine Below.setCell ?_ ?_ _; rotate_left; exact (by first | omega | (simp; done) | (simp; omega))) | (with_reducible refine Below.alloc ?_ ?_ _; rotate_left; exact (by first | omega | (simp; done) | (simp; omega))) | with_reducible refine Below.drew ?_ | with_reducible refine Below_drewN ?_ _)⟩

theorem or1_any (s i x : Int) (w : World) (hs : s = 0 ∨ s = 1 ∨ s = 2) (hT : Tabs w) :
    Calls Tryd.prog 30 #[.int .i64 s, .int .i64 i, .int .i64 x] w (Ret (.int .i64 (orL s (tr x))) w) := by
  have hx : tr x = 0 ∨ tr x = 1 ∨ tr x = 2 := by
    rcases tr_cases x with ⟨_, h⟩ | ⟨_, h⟩ | ⟨_, _, h⟩
    · exact .inl h
    · exact .inr (.inl h)
    · exact .inr (.inr h)
  rcases hs with rfl | rfl | rfl <;> rcases hx with h | h | h <;> rw [h]
  · exact or1_key 0 0 i x w (by omega) (by omega) hT h
  · exact or1_key 0 1 i x w (by omega) (by omega) hT h
  · exact or1_key 0 2 i x w (by omega) (by omega) hT h
  · exact or1_key 1 0 i x w (by omega) (by omega) hT h
  · exact or1_key 1 1 i x w (by omega) (by omega) hT h
  · exact or1_key 1 2 i x w (by omega) (by omega) hT h
  · exact or1_key 2 0 i x w (by omega) (by omega) hT h
  · exact or1_key 2 1 i x w (by omega) (by omega) hT h
  · exact or1_key 2 2 i x w (by omega) (by omega) hT h

def Three (v : Int) : Prop := v = 0 ∨ v = 1 ∨ v = 2
/-- What fold makes of a list of truths. -/
def foldT (step : Int → Int → Int) (s : Int) (l : List Int) : Int := l.foldl (fun s x => step s (tr x)) s
theorem foldT_snoc (step : Int → Int → Int) (s : Int) (l : List Int) (x : Int) : foldT step s (l ++ [x]) = step (foldT step s l) (tr x) := by simp [foldT]

set_option maxHeartbeats 2000000 in
theorem fold_some (k : Nat) (step : Int → Int → Int) (s0 : Int) (a : Addr) (len cap : Nat) (zs : List Int) (w : World)
    (hE : ∀ (args : Array Value) (W : World), (callFunc k args).run Tryd.prog W = .ok (.enter k args) W)
    (hlen : zs.length = len) (hl : len ≤ 9223372036854775807) (hab : a.block < w.heap.size) (hsp : a.spot = none)
    (hz : ∀ j, j < len → w.cell? ⟨a.block, a.off + j, none⟩ = some (.int .i64 (zs.getD j 0)))
    (hT : Tabs w) (hst : ∀ s x, (s = 0 ∨ s = 1 ∨ s = 2) → (step s (tr x) = 0 ∨ step s (tr x) = 1 ∨ step s (tr x) = 2)) (hs0 : s0 = 0 ∨ s0 = 1 ∨ s0 = 2)
    (hk : ∀ (s i x : Int) (W : World), (s = 0 ∨ s = 1 ∨ s = 2) → Tabs W → Calls Tryd.prog k #[.int .i64 s, .int .i64 i, .int .i64 x] W (Ret (.int .i64 (step s (tr x))) W)) :
    Calls Tryd.prog 26 #[.slice (some a) len cap, .int .i64 s0, .func (.func k) #[] #[]] w (Ret (.int .i64 (foldT step s0 zs)) w) := by
  obtain ⟨ab, ao, asp⟩ := a
  dsimp only at hab hsp hz
  subst hsp
  have HK := Lib.hid hk
  have HST := Lib.hid hst
  have HT := Lib.hid hT
  have HZ := Lib.hid hz
  have HL := Lib.hid hlen
  have HS0 := Lib.hid hs0
  clear hk hst hT hz hlen hs0
  go_enter Tryd.func26, Tryd.ntmps26
  go_wp2_with fail
  go_loopw [1, 7, 8, 11] (fun s _ _ i wr => ∃ j : Nat, j ≤ len ∧ i = .int .i64 j ∧ s = .int .i64 (foldT step s0 (zs.take j)) ∧ Three (foldT step s0 (zs.take j)) ∧ Below w.heap.size w wr) (fun _ _ _ i _ => len - (intOf i).toNat)
  case atStart => exact ⟨0, Nat.zero_le _, rfl, rfl, HS0.out, Below.refl _ _⟩
  case round =>
    obtain ⟨j, hj, rfl, rfl, h3, hB⟩ := hrel
    by_cases hlt : j < len
    · have hcell : wr.cell? ⟨ab, ao + j, none⟩ = some (.int .i64 (zs.getD j 0)) := (hB.cell (p := ⟨ab, ao + j, none⟩) hab).trans (HZ.out j hlt)
      have hsn : foldT step s0 (zs.take (j + 1)) = step (foldT step s0 (zs.take j)) (tr (zs.getD j 0)) := by
        have hjl : j < zs.length := by rw [HL.out]; exact hlt
        rw [List.take_succ_eq_append_getElem hjl, foldT_snoc, List.getD_eq_getElem?_getD, List.getElem?_eq_getElem hjl]
        rfl
      have HSN := Lib.hid hsn
      clear hsn
      have HN3 : Hid (Three (foldT step s0 (zs.take (j + 1)))) := by rw [HSN.out]; exact HST.out _ _ h3
      have H3 := Lib.hid h3
      clear h3
      generalize foldT step s0 (zs.take j) = v at *
      generalize zs.getD j 0 = x at *
      go_wp2_with ((with_reducible show Calls _ k _ _ _); refine (HK.out v _ x _ H3.out (HT.out.below hB)).mono ?_; rintro e w1 ⟨rfl, hb⟩)
      go_roundw
      case rel => exact ⟨j + 1, by omega, by go_num, by rw [HSN.out], HN3, hB.trans (hb.mono hB.size)⟩
      case measure => simp [intOf]; omega
    · have hjl : j = len := by omega
      have e : zs.take j = zs := by rw [hjl, ← HL.out]; exact List.take_length
      have HE := Lib.hid e
      clear e hjl
      go_wp2
      go_ret
      exact ⟨by rw [HE.out]; rfl, hB⟩

end Go.Proofs.YtohicokoegodjaaDoor
