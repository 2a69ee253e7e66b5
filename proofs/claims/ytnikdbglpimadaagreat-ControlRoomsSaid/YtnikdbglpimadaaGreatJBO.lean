import Derived.Test.YtnikdbglpimadaaGreatJAS
import Derived.Test.YtnikdbglpimadaaGreatJAU
import Derived.Test.YtnikdbglpimadaaGreatJBL
import Derived.Test.YtnikdbglpimadaaGreatJBN
section
/- Package control and its specification: Remember, over this seat's translation (written by mk_ctx.py). -/
namespace Go.Proofs.YtnikdbglpimadaaGreat
set_option linter.unusedVariables false
set_option linter.unusedSimpArgs false
open Go.RowKit Go.Shelf

end Go.Proofs.YtnikdbglpimadaaGreat
end
section
/- Package control and its specification: answer, over this seat's translation (written by mk_cta.py). -/
namespace Go.Proofs.YtnikdbglpimadaaGreat
set_option linter.unusedVariables false
set_option linter.unusedSimpArgs false
open Go.RowKit Go.Shelf

def whj (g n : Nat → Int) : Nat → Int
  | 0 => 0
  | j + 1 => whj g n j + g j * (n j).tdiv 1000
def rsj (g n : Nat → Int) : Nat → Int
  | 0 => 0
  | j + 1 => rsj g n j + g j * (n j).tmod 1000
theorem prod_in {a b A B : Int} (a0 : -A ≤ a) (a1 : a ≤ A) (b0 : -B ≤ b) (b1 : b ≤ B) : -(A * B) ≤ a * b ∧ a * b ≤ A * B := by
  have hA : 0 ≤ A := by omega
  have hB : 0 ≤ B := by omega
  have h := Int.mul_le_mul (show (a.natAbs : Int) ≤ A by omega) (show (b.natAbs : Int) ≤ B by omega) (by omega) hA
  have h2 : ((a * b).natAbs : Int) = (a.natAbs : Int) * (b.natAbs : Int) := by rw [Int.natAbs_mul]; rfl
  omega
theorem tmod_in (a : Int) : -999 ≤ a.tmod 1000 ∧ a.tmod 1000 ≤ 999 := by
  have h := Int.tmod_lt_of_pos a (by decide : (0 : Int) < 1000)
  have h2 := Int.tmod_lt_of_pos (-a) (by decide : (0 : Int) < 1000)
  rw [Int.neg_tmod] at h2
  omega
theorem td_in {a : Int} (h0 : -1000000000000000 ≤ a) (h1 : a ≤ 1000000000000000) : -1000000000000 ≤ a.tdiv 1000 ∧ a.tdiv 1000 ≤ 1000000000000 := by
  have e := Int.mul_tdiv_add_tmod a 1000
  have m := tmod_in a
  omega
theorem whj_in {g n : Nat → Int} (hg : ∀ k, -1000000 ≤ g k ∧ g k ≤ 1000000) (hn : ∀ k, -1000000000000000 ≤ n k ∧ n k ≤ 1000000000000000) (j : Nat) : -((j : Int) * 1000000000000000000) ≤ whj g n j ∧ whj g n j ≤ (j : Int) * 1000000000000000000 := by
  induction j with
  | zero => simp [whj]
  | succ j ih =>
    obtain ⟨q0, q1⟩ := td_in (hn j).1 (hn j).2
    have h := prod_in (hg j).1 (hg j).2 q0 q1
    unfold whj
    omega
theorem rsj_in {g n : Nat → Int} (hg : ∀ k, -1000000 ≤ g k ∧ g k ≤ 1000000) (j : Nat) : -((j : Int) * 999000000) ≤ rsj g n j ∧ rsj g n j ≤ (j : Int) * 999000000 := by
  induction j with
  | zero => simp [rsj]
  | succ j ih =>
    obtain ⟨q0, q1⟩ := tmod_in (n j)
    have h := prod_in (hg j).1 (hg j).2 q0 q1
    unfold rsj
    omega
def dotj (g n : Nat → Int) : Nat → Int
  | 0 => 0
  | j + 1 => dotj g n j + g j * n j
theorem dotj_eq (g n : Nat → Int) (j : Nat) : dotj g n j = 1000 * whj g n j + rsj g n j := by
  induction j with
  | zero => rfl
  | succ j ih =>
    have e := Int.mul_tdiv_add_tmod (n j) 1000
    unfold dotj whj rsj
    rw [ih]
    generalize (n j).tdiv 1000 = q at *
    generalize (n j).tmod 1000 = m at *
    rw [← e, Int.mul_add, Int.mul_add, Int.mul_left_comm]
    omega
/-- The end of answer: from the whole quotients and the rests to the quotient rounded towards 0. -/
def endJ (a b : Int) : Int := if 0 < a + b.tdiv 1000 ∧ b.tmod 1000 < 0 then a + b.tdiv 1000 - 1 else if a + b.tdiv 1000 < 0 ∧ 0 < b.tmod 1000 then a + b.tdiv 1000 + 1 else a + b.tdiv 1000
theorem endJ_eq (a b : Int) : endJ a b = (1000 * a + b).tdiv 1000 := by
  have e := Int.mul_tdiv_add_tmod b 1000
  obtain ⟨m0, m1⟩ := tmod_in b
  unfold endJ
  generalize b.tdiv 1000 = q at *
  generalize b.tmod 1000 = m at *
  obtain rfl : b = 1000 * q + m := e.symm
  have h2 := Int.mul_tdiv_add_tmod (1000 * a + (1000 * q + m)) 1000
  have s := tmod_in (1000 * a + (1000 * q + m))
  have p1 : 0 ≤ 1000 * a + (1000 * q + m) → 0 ≤ (1000 * a + (1000 * q + m)).tmod 1000 := fun h => Int.tmod_nonneg _ h
  have p2 : 1000 * a + (1000 * q + m) ≤ 0 → (1000 * a + (1000 * q + m)).tmod 1000 ≤ 0 := fun h => by
    have h3 := Int.tmod_nonneg (a := -(1000 * a + (1000 * q + m))) 1000 (by omega)
    rw [Int.neg_tmod] at h3
    omega
  generalize (1000 * a + (1000 * q + m)).tdiv 1000 = Q at *
  generalize (1000 * a + (1000 * q + m)).tmod 1000 = M at *
  split
  · omega
  · split <;> omega

end Go.Proofs.YtnikdbglpimadaaGreat
end
section
/- Package control and its specification: the contracts of answer, over this seat's translation (written by mk_ctb.py). -/
namespace Go.Proofs.YtnikdbglpimadaaGreat
set_option linter.unusedVariables false
set_option linter.unusedSimpArgs false
open Go.RowKit Go.Shelf

set_option maxRecDepth 100000 in
set_option maxHeartbeats 8000000 in
theorem answer_any (A B : Option Addr) (ca cb : Nat) (gs ns : List Int) (w : World) (h1 : IsT 1 intCells w A 4 gs) (h2 : IsT 1 intCells w B 4 ns)
    (hg : ∀ k, -1000000 ≤ gs.getD k 0 ∧ gs.getD k 0 ≤ 1000000) (hn : ∀ k, -1000000000000000 ≤ ns.getD k 0 ∧ ns.getD k 0 ≤ 1000000000000000) :
    Calls Tryz.prog 60 #[.slice A 4 ca, .slice B 4 cb] w (Ret (.int .i64 ((dotj (fun k => gs.getD k 0) (fun k => ns.getD k 0) 4).tdiv 1000)) w) := by
  have HE0 : Hid (endJ (whj (fun k => gs.getD k 0) (fun k => ns.getD k 0) 4) (rsj (fun k => gs.getD k 0) (fun k => ns.getD k 0) 4) = (dotj (fun k => gs.getD k 0) (fun k => ns.getD k 0) 4).tdiv 1000) := Lib.hid (by rw [endJ_eq, dotj_eq])
  obtain ⟨g, hgg⟩ : ∃ g : Nat → Int, (fun k => gs.getD k 0) = g := ⟨_, rfl⟩
  obtain ⟨n, hnn⟩ : ∃ g : Nat → Int, (fun k => ns.getD k 0) = g := ⟨_, rfl⟩
  have HGK : Hid (∀ k, gs.getD k 0 = g k) := Lib.hid (fun k => by rw [← hgg])
  have HNK : Hid (∀ k, ns.getD k 0 = n k) := Lib.hid (fun k => by rw [← hnn])
  rw [hgg, hnn] at HE0 ⊢
  have HW := Lib.hid (whj_in (g := g) (n := n) (fun k => by rw [← HGK.out]; exact hg k) (fun k => by rw [← HNK.out]; exact hn k))
  have HR := Lib.hid (rsj_in (g := g) (n := n) (fun k => by rw [← HGK.out]; exact hg k))
  have HBg := Lib.hid (fun k => (by rw [← HGK.out]; exact hg k : -1000000 ≤ g k ∧ g k ≤ 1000000))
  have HBn := Lib.hid (fun k => (by rw [← HNK.out]; exact hn k : -1000000000000000 ≤ n k ∧ n k ≤ 1000000000000000))
  have I1 := Lib.hid h1
  have I2 := Lib.hid h2
  clear h1 h2 hg hn hgg hnn
  generalize (dotj g n 4).tdiv 1000 = K at *
  go_enter Tryz.func60, Tryz.ntmps60
  go_wp2_with fail
  go_loopw [5, 6, 7, 8, 12] (fun u5 u6 _ _ i wr => ∃ j : Nat, j ≤ 4 ∧ i = .int .i64 j ∧ u5 = .int .i64 (whj g n j) ∧ u6 = .int .i64 (rsj g n j) ∧ Below w.heap.size w wr) (fun _ _ _ _ i _ => 4 - (intOf i).toNat)
  case atStart => exact ⟨0, by omega, rfl, rfl, rfl, Below.refl _ _⟩
  case round =>
    obtain ⟨j, hj, rfl, rfl, rfl, hB⟩ := hrel
    by_cases hlt : j < 4
    · obtain ⟨z1, hcl1⟩ := I1.out.below hB
      obtain ⟨b1, o1, rfl, hb1, hcl1⟩ := hcl1 (by omega)
      obtain ⟨z2, hcl2⟩ := I2.out.below hB
      obtain ⟨b2, o2, rfl, hb2, hcl2⟩ := hcl2 (by omega)
      obtain ⟨x, hx⟩ : ∃ x, gs[j]? = some x := ⟨_, List.getElem?_eq_getElem (by omega)⟩
      obtain ⟨y, hy⟩ : ∃ y, ns[j]? = some y := ⟨_, List.getElem?_eq_getElem (by omega)⟩
      have x0 : wr.cell? ⟨b1, o1 + j, none⟩ = some (.int .i64 x) := by have h := hcl1 j x hx 0 _ rfl; simpa using h
      have y0 : wr.cell? ⟨b2, o2 + j, none⟩ = some (.int .i64 y) := by have h := hcl2 j y hy 0 _ rfl; simpa using h
      have ex : g j = x := by rw [← HGK.out, List.getD_eq_getElem?_getD, hx]; rfl
      have ey : n j = y := by rw [← HNK.out, List.getD_eq_getElem?_getD, hy]; rfl
      have HS : Hid (whj g n (j + 1) = whj g n j + x * y.tdiv 1000) := Lib.hid (by rw [← ex, ← ey]; rfl)
      have HT : Hid (rsj g n (j + 1) = rsj g n j + x * y.tmod 1000) := Lib.hid (by rw [← ex, ← ey]; rfl)
      have bg := HBg.out j
      have bn := HBn.out j
      rw [ex] at bg
      rw [ey] at bn
      have t1 := td_in bn.1 bn.2
      have t2 := tmod_in y
      have p1 := prod_in bg.1 bg.2 t1.1 t1.2
      have p2 := prod_in bg.1 bg.2 t2.1 t2.2
      have s1 := HW.out j
      have s2 := HR.out j
      have jc : (j : Int) ≤ 3 := by omega
      generalize whj g n j = a at *
      generalize rsj g n j = b at *
      have v1 : IntKind.i64.wrap (y.tdiv 1000) = y.tdiv 1000 := IntWalk.i64_in _ (by omega)
      have v2 : IntKind.i64.wrap (y.tmod 1000) = y.tmod 1000 := IntWalk.i64_in _ (by omega)
      have v3 : IntKind.i64.wrap (x * y.tdiv 1000) = x * y.tdiv 1000 := IntWalk.i64_in _ (by omega)
      have v4 : IntKind.i64.wrap (x * y.tmod 1000) = x * y.tmod 1000 := IntWalk.i64_in _ (by omega)
      have v5 : IntKind.i64.wrap (a + x * y.tdiv 1000) = a + x * y.tdiv 1000 := IntWalk.i64_in _ (by omega)
      have v6 : IntKind.i64.wrap (b + x * y.tmod 1000) = b + x * y.tmod 1000 := IntWalk.i64_in _ (by omega)
      have jn : ((j : Int)).toNat = j := by omega
      have j0 : (0 : Int) ≤ j := by omega
      clear hcl1 hcl2 hx hy ex ey z1 z2 bg bn t1 t2 p1 p2 s1 s2 HE0 HGK HNK
      go_wp2_with fail
      go_roundw
      case rel => exact ⟨j + 1, by omega, by go_num, by rw [HS.out], by rw [HT.out], by (with_reducible repeat first | exact Below.refl _ _ | assumption | ((first | refine Below.setCell ?_ ?_ _ | refine Below.alloc ?_ ?_ _); rotate_left; exact (by first | omega | (simp; done) | (simp; omega))) | refine Below.drew ?_ | refine Below_drewN ?_ _)⟩
      case measure => simp [intOf]; omega
    · obtain rfl : j = 4 := by omega
      have s1 := HW.out 4
      have s2 := HR.out 4
      have HE := Lib.hid HE0.out
      clear HE0 HGK HNK HBg HBn HW HR I1 I2
      generalize whj g n 4 = a at *
      generalize rsj g n 4 = b at *
      have q := Int.mul_tdiv_add_tmod b 1000
      have m := tmod_in b
      have v1 : IntKind.i64.wrap (b.tdiv 1000) = b.tdiv 1000 := IntWalk.i64_in _ (by omega)
      have v2 : IntKind.i64.wrap (b.tmod 1000) = b.tmod 1000 := IntWalk.i64_in _ (by omega)
      have v3 : IntKind.i64.wrap (a + b.tdiv 1000) = a + b.tdiv 1000 := IntWalk.i64_in _ (by omega)
      have v4 : IntKind.i64.wrap (a + b.tdiv 1000 - 1) = a + b.tdiv 1000 - 1 := IntWalk.i64_in _ (by omega)
      have v5 : IntKind.i64.wrap (a + b.tdiv 1000 + 1) = a + b.tdiv 1000 + 1 := IntWalk.i64_in _ (by omega)
      clear q m s1 s2
      by_cases k1 : 0 < a + b.tdiv 1000
      · have d1 : decide (0 < a + b.tdiv 1000) = true := decide_eq_true k1
        by_cases k2 : b.tmod 1000 < 0
        · have d2 : decide (b.tmod 1000 < 0) = true := decide_eq_true k2
          go_wp2_with fail
          go_ret
          exact ⟨by rw [← HE.out, show endJ a b = a + b.tdiv 1000 - 1 by unfold endJ; rw [if_pos ⟨k1, k2⟩]]; rfl, by (with_reducible repeat first | exact Below.refl _ _ | assumption | ((first | refine Below.setCell ?_ ?_ _ | refine Below.alloc ?_ ?_ _); rotate_left; exact (by first | omega | (simp; done) | (simp; omega))) | refine Below.drew ?_ | refine Below_drewN ?_ _)⟩
        · have d2 : decide (b.tmod 1000 < 0) = false := decide_eq_false k2
          have d3 : decide (a + b.tdiv 1000 < 0) = false := decide_eq_false (by omega)
          go_wp2_with fail
          go_ret
          exact ⟨by rw [← HE.out, show endJ a b = a + b.tdiv 1000 by unfold endJ; rw [if_neg (by omega), if_neg (by omega)]]; rfl, by (with_reducible repeat first | exact Below.refl _ _ | assumption | ((first | refine Below.setCell ?_ ?_ _ | refine Below.alloc ?_ ?_ _); rotate_left; exact (by first | omega | (simp; done) | (simp; omega))) | refine Below.drew ?_ | refine Below_drewN ?_ _)⟩
      · have d1 : decide (0 < a + b.tdiv 1000) = false := decide_eq_false k1
        by_cases k2 : a + b.tdiv 1000 < 0
        · have d2 : decide (a + b.tdiv 1000 < 0) = true := decide_eq_true k2
          by_cases k3 : 0 < b.tmod 1000
          · have d3 : decide (0 < b.tmod 1000) = true := decide_eq_true k3
            go_wp2_with fail
            go_ret
            exact ⟨by rw [← HE.out, show endJ a b = a + b.tdiv 1000 + 1 by unfold endJ; rw [if_neg (by omega), if_pos ⟨k2, k3⟩]]; rfl, by (with_reducible repeat first | exact Below.refl _ _ | assumption | ((first | refine Below.setCell ?_ ?_ _ | refine Below.alloc ?_ ?_ _); rotate_left; exact (by first | omega | (simp; done) | (simp; omega))) | refine Below.drew ?_ | refine Below_drewN ?_ _)⟩
          · have d3 : decide (0 < b.tmod 1000) = false := decide_eq_false k3
            go_wp2_with fail
            go_ret
            exact ⟨by rw [← HE.out, show endJ a b = a + b.tdiv 1000 by unfold endJ; rw [if_neg (by omega), if_neg (by omega)]]; rfl, by (with_reducible repeat first | exact Below.refl _ _ | assumption | ((first | refine Below.setCell ?_ ?_ _ | refine Below.alloc ?_ ?_ _); rotate_left; exact (by first | omega | (simp; done) | (simp; omega))) | refine Below.drew ?_ | refine Below_drewN ?_ _)⟩
        · have d2 : decide (a + b.tdiv 1000 < 0) = false := decide_eq_false k2
          go_wp2_with fail
          go_ret
          exact ⟨by rw [← HE.out, show endJ a b = a + b.tdiv 1000 by unfold endJ; rw [if_neg (by omega), if_neg (by omega)]]; rfl, by (with_reducible repeat first | exact Below.refl _ _ | assumption | ((first | refine Below.setCell ?_ ?_ _ | refine Below.alloc ?_ ?_ _); rotate_left; exact (by first | omega | (simp; done) | (simp; omega))) | refine Below.drew ?_ | refine Below_drewN ?_ _)⟩

end Go.Proofs.YtnikdbglpimadaaGreat
end
