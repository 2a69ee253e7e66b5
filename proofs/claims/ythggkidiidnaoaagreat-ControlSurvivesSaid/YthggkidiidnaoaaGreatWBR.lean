import Derived.Test.YthggkidiidnaoaaGreatWAA
import Derived.Test.YthggkidiidnaoaaGreatWAV
import Derived.Test.YthggkidiidnaoaaGreatWBQ
namespace Go.Proofs.YthggkidiidnaoaaGreat
set_option linter.unusedVariables false
set_option linter.unusedSimpArgs false
section
open Go.RowKit Go.Shelf
set_option maxRecDepth 100000 in
set_option maxHeartbeats 8000000 in
theorem answer_any (A B : Option Addr) (ca cb : Nat) (gs ns : List Int) (w : World) (h1 : IsT 1 intCells w A 4 gs) (h2 : IsT 1 intCells w B 4 ns)
  (hg : ∀ k, -1000000 ≤ gs.getD k 0 ∧ gs.getD k 0 ≤ 1000000) (hn : ∀ k, -1000000000000000 ≤ ns.getD k 0 ∧ ns.getD k 0 ≤ 1000000000000000) :
  Calls Tryz.prog 36 #[.slice A 4 ca, .slice B 4 cb] w (Ret (.int .i64 ((dotj (fun k => gs.getD k 0) (fun k => ns.getD k 0) 4).tdiv 1000)) w) := by
 have HE0 : Hid (endJ (whj (fun k => gs.getD k 0) (fun k => ns.getD k 0) 4) (rsj (fun k => gs.getD k 0) (fun k => ns.getD k 0) 4) = (dotj (fun k => gs.getD k 0) (fun k => ns.getD k 0) 4).tdiv 1000) := Lib.hid (by rw [endJ_eq, dotj_eq])
 obtain ⟨g, hgg⟩ : ∃ g : Nat → Int, (fun k => gs.getD k 0) = g := ⟨_, rfl⟩
 obtain ⟨n, hnn⟩ : ∃ g : Nat → Int, (fun k => ns.getD k 0) = g := ⟨_, rfl⟩
 have HGK : Hid (∀ k, gs.getD k 0 = g k) := Lib.hid (fun k => by rw [← hgg])
 have HNK : Hid (∀ k, ns.getD k 0 = n k) := Lib.hid (fun k => by rw [← hnn])
 rw [hgg, hnn] at HE0 ⊢
 have HW := Lib.hid (whj_in (g := g) (n := n) (fun k => by rw [← HGK.out]; exact hg k) (fun k => by rw [← HNK.out]; exact hn k))
 have HR := Lib.hid (rsj_in (g := g) (n := n) (fun k => by rw [← HGK.out]; exact hg k))
 have HBg := Lib.hid (fun k => (by rw [← HGK.out]; exact hg k : -1000000 ≤ g k ∧ g k ≤ 1000000))
 have HBn := Lib.hid (fun k => (by rw [← HNK.out]; exact hn k : -1000000000000000 ≤ n k ∧ n k ≤ 1000000000000000))
 have I1 := Lib.hid h1
 have I2 := Lib.hid h2
 clear h1 h2 hg hn hgg hnn
 generalize (dotj g n 4).tdiv 1000 = K at *
 go_enter Tryz.func36, Tryz.ntmps36
 go_wp2_with fail
 go_loopw [5, 6, 7, 8, 12] (fun u5 u6 _ _ i wr => ∃ j : Nat, j ≤ 4 ∧ i = .int .i64 j ∧ u5 = .int .i64 (whj g n j) ∧ u6 = .int .i64 (rsj g n j) ∧ Below w.heap.size w wr) (fun _ _ _ _ i _ => 4 - (intOf i).toNat)
 case atStart => exact ⟨0, by omega, rfl, rfl, rfl, Below.refl _ _⟩
 case round =>
  obtain ⟨j, hj, rfl, rfl, rfl, hB⟩ := hrel
  by_cases hlt : j < 4
  ·obtain ⟨z1, hcl1⟩ := I1.out.below hB
   obtain ⟨b1, o1, rfl, hb1, hcl1⟩ := hcl1 om9
   obtain ⟨z2, hcl2⟩ := I2.out.below hB
   obtain ⟨b2, o2, rfl, hb2, hcl2⟩ := hcl2 om9
   obtain ⟨x, hx⟩ : ∃ x, gs[j]? = some x := ⟨_, List.getElem?_eq_getElem om9⟩
   obtain ⟨y, hy⟩ : ∃ y, ns[j]? = some y := ⟨_, List.getElem?_eq_getElem om9⟩
   have x0 : wr.cell? ⟨b1, o1 + j, none⟩ = some (.int .i64 x) := by have h := hcl1 j x hx 0 _ rfl; simpa using h
   have y0 : wr.cell? ⟨b2, o2 + j, none⟩ = some (.int .i64 y) := by have h := hcl2 j y hy 0 _ rfl; simpa using h
   have ex : g j = x := by rw [← HGK.out, List.getD_eq_getElem?_getD, hx]; rfl
   have ey : n j = y := by rw [← HNK.out, List.getD_eq_getElem?_getD, hy]; rfl
   have HS : Hid (whj g n (j + 1) = whj g n j + x * y.tdiv 1000) := Lib.hid (by rw [← ex, ← ey]; rfl)
   have HT : Hid (rsj g n (j + 1) = rsj g n j + x * y.tmod 1000) := Lib.hid (by rw [← ex, ← ey]; rfl)
   have bg := HBg.out j
   have bn := HBn.out j
   rw [ex] at bg
   rw [ey] at bn
   have t1 := td_in bn.1 bn.2
   have t2 := tmod_in y
   have p1 := prod_in bg.1 bg.2 t1.1 t1.2
   have p2 := prod_in bg.1 bg.2 t2.1 t2.2
   have s1 := HW.out j
   have s2 := HR.out j
   have jc : (j : Int) ≤ 3 := by omega
   generalize whj g n j = a at *
   generalize rsj g n j = b at *
   have v1 : IntKind.i64.wrap (y.tdiv 1000) = y.tdiv 1000 := IntWalk.i64_in _ om9
   have v2 : IntKind.i64.wrap (y.tmod 1000) = y.tmod 1000 := IntWalk.i64_in _ om9
   have v3 : IntKind.i64.wrap (x * y.tdiv 1000) = x * y.tdiv 1000 := IntWalk.i64_in _ om9
   have v4 : IntKind.i64.wrap (x * y.tmod 1000) = x * y.tmod 1000 := IntWalk.i64_in _ om9
   have v5 : IntKind.i64.wrap (a + x * y.tdiv 1000) = a + x * y.tdiv 1000 := IntWalk.i64_in _ om9
   have v6 : IntKind.i64.wrap (b + x * y.tmod 1000) = b + x * y.tmod 1000 := IntWalk.i64_in _ om9
   have jn : ((j : Int)).toNat = j := by omega
   have j0 : (0 : Int) ≤ j := by omega
   clear hcl1 hcl2 hx hy ex ey z1 z2 bg bn t1 t2 p1 p2 s1 s2 HE0 HGK HNK
   go_wp2_with fail
   go_roundw
   case rel => exact ⟨j + 1, by omega, by go_num, by rw [HS.out], by rw [HT.out], by (repeat with_reducible assumption)⟩
   case measure => simp [intOf]; omega
  ·obtain rfl : j = 4 := by omega
   have s1 := HW.out 4
   have s2 := HR.out 4
   have HE := Lib.hid HE0.out
   clear HE0 HGK HNK HBg HBn HW HR I1 I2
   generalize whj g n 4 = a at *
   generalize rsj g n 4 = b at *
   have q := Int.mul_tdiv_add_tmod b 1000
   have m := tmod_in b
   have v1 : IntKind.i64.wrap (b.tdiv 1000) = b.tdiv 1000 := IntWalk.i64_in _ om9
   have v2 : IntKind.i64.wrap (b.tmod 1000) = b.tmod 1000 := IntWalk.i64_in _ om9
   have v3 : IntKind.i64.wrap (a + b.tdiv 1000) = a + b.tdiv 1000 := IntWalk.i64_in _ om9
   have v4 : IntKind.i64.wrap (a + b.tdiv 1000 - 1) = a + b.tdiv 1000 - 1 := IntWalk.i64_in _ om9
   have v5 : IntKind.i64.wrap (a + b.tdiv 1000 + 1) = a + b.tdiv 1000 + 1 := IntWalk.i64_in _ om9
   clear q m s1 s2
   by_cases k1 : 0 < a + b.tdiv 1000
   ·have d1 : decide (0 < a + b.tdiv 1000) = true := decide_eq_true k1
    by_cases k2 : b.tmod 1000 < 0
    ·have d2 : decide (b.tmod 1000 < 0) = true := decide_eq_true k2
     go_wp2_with fail
     go_ret
     exact ⟨by rw [← HE.out, show endJ a b = a + b.tdiv 1000 - 1 by unfold endJ; rw [if_pos ⟨k1, k2⟩]]; rfl, by (repeat with_reducible assumption)⟩
    ·have d2 : decide (b.tmod 1000 < 0) = false := decide_eq_false k2
     have d3 : decide (a + b.tdiv 1000 < 0) = false := decide_eq_false om9
     go_wp2_with fail
     go_ret
     exact ⟨by rw [← HE.out, show endJ a b = a + b.tdiv 1000 by unfold endJ; rw [if_neg om9, if_neg om9]]; rfl, by (repeat with_reducible assumption)⟩
   ·have d1 : decide (0 < a + b.tdiv 1000) = false := decide_eq_false k1
    by_cases k2 : a + b.tdiv 1000 < 0
    ·have d2 : decide (a + b.tdiv 1000 < 0) = true := decide_eq_true k2
     by_cases k3 : 0 < b.tmod 1000
     ·have d3 : decide (0 < b.tmod 1000) = true := decide_eq_true k3
      go_wp2_with fail
      go_ret
      exact ⟨by rw [← HE.out, show endJ a b = a + b.tdiv 1000 + 1 by unfold endJ; rw [if_neg om9, if_pos ⟨k2, k3⟩]]; rfl, by (repeat with_reducible assumption)⟩
     ·have d3 : decide (0 < b.tmod 1000) = false := decide_eq_false k3
      go_wp2_with fail
      go_ret
      exact ⟨by rw [← HE.out, show endJ a b = a + b.tdiv 1000 by unfold endJ; rw [if_neg om9, if_neg om9]]; rfl, by (repeat with_reducible assumption)⟩
    ·have d2 : decide (a + b.tdiv 1000 < 0) = false := decide_eq_false k2
     go_wp2_with fail
     go_ret
     exact ⟨by rw [← HE.out, show endJ a b = a + b.tdiv 1000 by unfold endJ; rw [if_neg om9, if_neg om9]]; rfl, by (repeat with_reducible assumption)⟩
end
end Go.Proofs.YthggkidiidnaoaaGreat
