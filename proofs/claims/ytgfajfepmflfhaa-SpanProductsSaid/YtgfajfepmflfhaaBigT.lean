/- The specification's whole numbers of any length: the contract of trim, over this seat's translation. -/
import Derived.Test.YtgfajfepmflfhaaBigO
namespace Go.Proofs.Ytgfajfepmflfhaa
set_option linter.unusedVariables false
set_option linter.unusedSimpArgs false
open Go.RowKit

theorem val_zeros (P : List Int) (k : Nat) (hk : k ≤ P.length) (h : ∀ j, k ≤ j → j < P.length → P.getD j 0 = 0) : val (P.take k) = val P := by
  have key : ∀ R : List Int, (∀ j, j < R.length → R.getD j 0 = 0) → val R = 0 := by
    intro R
    induction R with
    | nil => intro _; rfl
    | cons d R ih =>
      intro h
      have h0 : d = 0 := by simpa using h 0 (by simp)
      have h1 := ih (fun j hj => by simpa using h (j + 1) (by simpa using hj))
      show d + 10000 * val R = 0
      omega
  have e := val_append (P.take k) (P.drop k)
  rw [List.take_append_drop] at e
  have hz := key (P.drop k) (fun j hj => by
    have hj' : k + j < P.length := by simp at hj; omega
    have := h (k + j) (by omega) hj'
    simpa [List.getD_eq_getElem?_getD, List.getElem?_drop] using this)
  rw [hz, Int.mul_zero, Int.add_zero] at e
  exact e.symm

theorem canon_take (P : List Int) (k : Nat) (hd : Digs P) (hk : k ≤ P.length) (hl : 0 < k → P.getD (k - 1) 0 ≠ 0) : Canon (P.take k) := by
  refine ⟨fun x hx => hd x (List.mem_of_mem_take hx), fun d h => ?_⟩
  rcases k with _ | k
  · simp at h
  · have h1 := hl (by omega)
    rw [List.take_succ_eq_append_getElem (by omega), List.getLast?_concat] at h
    have h2 : P[k] = d := by simpa using h
    rw [List.getD_eq_getElem?_getD, Nat.add_sub_cancel, List.getElem?_eq_getElem (by omega)] at h1
    rw [← h2]
    exact h1

/-- A struct of two cells, just made, as the one result. -/
theorem res2c {fn : Func} {p : Tmp} (h : fn.results = #[.cell p 41]) (tmps : Array Value) (W : World) (b : Nat) (x y : Value)
    (hp : tmps.getD p undef = .pointer (some ⟨b, 0, none⟩)) (h0 : W.cell? ⟨b, 0, none⟩ = some x) (h1 : W.cell? ⟨b, 1, none⟩ = some y) :
    (results fn tmps).run Try.prog W = .ok (.agg #[x, y]) W := by
  have hp' : tmps[p]?.getD undef = .pointer (some ⟨b, 0, none⟩) := by simpa using hp
  simp only [results, h]
  simp [Sem.run_bind, Result.andThen, go_sem, hp', h0, h1]

/-- What trim leaves. -/
def Trimmed (base : Nat) (neg : Bool) (n : Nat) (P : List Int) (w : World) (e : Ending) (w' : World) : Prop :=
  ∃ (A : Option Addr) (k cap : Nat), e = .returned (.agg #[.bool (neg && decide (0 < k)), .slice A k cap]) ∧ IsI w' base A k (P.take k) ∧ k ≤ cap ∧ k ≤ n ∧ Canon (P.take k) ∧ val (P.take k) = val P ∧ Below w.heap.size w w'

set_option maxHeartbeats 4000000 in
theorem trim_any (base : Nat) (neg : Bool) (A : Option Addr) (n cap : Nat) (P : List Int) (w : World) (hI : IsI w base A n P) (hc : n ≤ cap) (hn : n ≤ 64) (hd : Digs P) :
    Calls Try.prog 39 #[.agg #[.bool neg, .slice A n cap]] w (Trimmed base neg n P w) := by
  have HL := Lib.hid hI.1
  have HI := Lib.hid hI
  have HD := Lib.hid hd
  clear hI hd
  go_enter Try.func39, Try.ntmps39
  go_wp2_with fail
  go_loop [3] (fun s => ∃ k : Nat, k ≤ n ∧ s = .int .i64 k ∧ ∀ j, k ≤ j → j < n → P.getD j 0 = 0) (fun s => (intOf s).toNat)
  case atStart => exact ⟨n, Nat.le_refl _, rfl, fun j h1 h2 => by omega⟩
  case round =>
    obtain ⟨k, hk, rfl, hz⟩ := hrel
    have HZ := Lib.hid hz
    clear hz
    rcases k with _ | k
    · go_wp2
      exact bodyPost_ret (res2c Try.results39 _ _ _ (.bool false) (.slice A 0 cap) rfl (by go_simp) (by go_simp)) rfl ⟨A, 0, cap, by simp, ⟨by simp, fun h => absurd h (by omega)⟩, Nat.zero_le _, Nat.zero_le _, canon_take P 0 HD.out (Nat.zero_le _) (fun h => absurd h (by omega)), val_zeros P 0 (Nat.zero_le _) (fun j h1 h2 => HZ.out j h1 (by rw [← HL.out]; exact h2)), by (repeat first | with_reducible exact Below.refl _ _ | with_reducible assumption | (with_reducible refine Below.setCell ?_ ?_ _; rotate_left; exact (by first | omega | (simp; done) | (simp; omega))) | (with_reducible refine Below.alloc ?_ ?_ _; rotate_left; exact (by first | omega | (simp; done) | (simp; omega))) | with_reducible refine Below.drew ?_ | with_reducible refine Below_drewN ?_ _)⟩
    · have HI2 := HI
      obtain ⟨b, o, rfl, hbase, hb, hcells⟩ := HI.out.2 (by omega)
      have hcell := hcells k (by omega)
      have HC := Lib.hid hcells
      clear hcells HI
      obtain ⟨x, hxe⟩ : ∃ x, P.getD k 0 = x := ⟨_, rfl⟩
      rw [hxe] at hcell
      have HX := Lib.hid hxe
      clear hxe
      have k0 : (0 : Int) ≤ k := by omega
      have k1 : (k : Int) < n := by omega
      by_cases hx : x = 0
      · subst hx
        go_wp2
        go_round
        case rel => exact ⟨k, by omega, (by first | rfl | go_num), fun j h1 h2 => by
          rcases Nat.lt_or_ge k j with h3 | h3
          · exact HZ.out j h3 h2
          · rw [show j = k by omega]; exact HX.out⟩
        case measure => first | (simp [intOf]; done) | (simp [intOf]; omega)
      · have b0 : (x == 0) = false := by rw [beq_eq_false_iff_ne]; exact hx
        have b1 : ((k : Int) + 1 == 0) = false := by rw [beq_eq_false_iff_ne]; omega
        have HN := Lib.hid hx
        clear hx
        go_wp2
        exact bodyPost_ret (res2c Try.results39 _ _ _ (.bool neg) (.slice (some ⟨b, o, none⟩) (k + 1) cap) rfl (by go_simp) (by go_simp)) rfl ⟨some ⟨b, o, none⟩, k + 1, cap, by simp, ⟨by rw [List.length_take, HL.out]; omega, fun _ => ⟨b, o, rfl, hbase, by simp; omega, fun j hj => by
          rw [World.cell?_alloc_lt _ _ _ (by simp; omega), World.cell?_alloc_lt _ _ _ hb, HC.out j (by omega), List.getD_eq_getElem?_getD, List.getD_eq_getElem?_getD, List.getElem?_take_of_lt hj]⟩⟩, by omega, hk, canon_take P (k + 1) HD.out (by rw [HL.out]; exact hk) (fun _ => by rw [Nat.add_sub_cancel, HX.out]; exact HN.out), val_zeros P (k + 1) (by rw [HL.out]; exact hk) (fun j h1 h2 => HZ.out j h1 (by rw [← HL.out]; exact h2)), by (repeat first | with_reducible exact Below.refl _ _ | with_reducible assumption | (with_reducible refine Below.setCell ?_ ?_ _; rotate_left; exact (by first | omega | (simp; done) | (simp; omega))) | (with_reducible refine Below.alloc ?_ ?_ _; rotate_left; exact (by first | omega | (simp; done) | (simp; omega))) | with_reducible refine Below.drew ?_ | with_reducible refine Below_drewN ?_ _)⟩

end Go.Proofs.Ytgfajfepmflfhaa
