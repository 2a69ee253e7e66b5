import Derived.Test.YtnikdbglpimadaaGreatJAN
import Derived.Test.YtnikdbglpimadaaGreatJAS
import Derived.Test.YtnikdbglpimadaaGreatJAT
section
/- Package control and its specification: Part, over this seat's translation (written by mk_ctp.py). -/
namespace Go.Proofs.YtnikdbglpimadaaGreat
set_option linter.unusedVariables false
set_option linter.unusedSimpArgs false
open Go.RowKit Go.Shelf

/-- What a call that answers a list of ints and an error number answers. -/
def IntsAt (E : Int) (T : List Int) (w : World) (e : Ending) (w' : World) : Prop :=
  ∃ (A : Option Addr) (c : Nat), e = .returned (.tuple #[.slice A T.length c, .int .i64 E]) ∧ IsT 1 intCells w' A T.length T ∧ T.length ≤ 1000000 ∧ Below w.heap.size w w'
theorem isT_none (w : World) : IsT 1 intCells w none 0 [] := ⟨rfl, fun h => absurd h (by omega)⟩
theorem IntsAt.nil {E : Int} {w w' : World} (h : Below w.heap.size w w') : IntsAt E [] w (.returned (.tuple #[.slice none 0 0, .int .i64 E])) w' := ⟨none, 0, rfl, isT_none w', by simp, h⟩
theorem tdiv_in {a b B : Int} (hb : 0 < b) (h0 : -B ≤ a) (h1 : a ≤ B) : -B ≤ a.tdiv b ∧ a.tdiv b ≤ B := by
  rcases Int.le_total 0 a with h | h
  · rw [Int.tdiv_eq_ediv_of_nonneg h]
    have h2 := Int.ediv_le_self b h
    have h3 := Int.ediv_nonneg h (by omega : 0 ≤ b)
    omega
  · have e : a.tdiv b = -((-a).tdiv b) := by rw [Int.neg_tdiv, Int.neg_neg]
    rw [e, Int.tdiv_eq_ediv_of_nonneg (by omega)]
    have h2 := Int.ediv_le_self b (by omega : 0 ≤ -a)
    have h3 := Int.ediv_nonneg (by omega : 0 ≤ -a) (by omega : 0 ≤ b)
    omega
def partL (l : List Int) (n : Int) : List Int := l.map fun x => (x * n).tdiv 8
def partE (l : List Int) (n : Int) : Int := if numB l = true then if wthn n 0 8 = true then 0 else 7 else 1
def partT (l : List Int) (n : Int) : List Int := if numB l = true then if wthn n 0 8 = true then partL l n else [] else []
theorem numB_get {l : List Int} (h : numB l = true) {k : Nat} {x : Int} (hx : l[k]? = some x) : -1000000000000000 ≤ x ∧ x ≤ 1000000000000000 :=
  wthn_iff.1 (List.all_eq_true.1 h x (List.mem_of_getElem? hx))
theorem partL_get {l : List Int} {n : Int} {k : Nat} {x : Int} (hx : l[k]? = some x) : (partL l n)[k]? = some ((x * n).tdiv 8) := by
  unfold partL; rw [List.getElem?_map, hx]; rfl
theorem partL_len (l : List Int) (n : Int) : (partL l n).length = l.length := by unfold partL; simp
theorem mul_in {x n : Int} (h0 : -1000000000000000 ≤ x) (h1 : x ≤ 1000000000000000) (n0 : 0 ≤ n) (n1 : n ≤ 8) : -8000000000000000 ≤ x * n ∧ x * n ≤ 8000000000000000 := by
  have a1 := Int.mul_le_mul_of_nonneg_right h1 n0
  have a2 := Int.mul_le_mul_of_nonneg_right h0 n0
  omega

set_option maxRecDepth 100000 in
set_option maxHeartbeats 8000000 in
theorem part_any (A : Option Addr) (len cap : Nat) (zs : List Int) (n : Int) (w : World) (hI : IsT 1 intCells w A len zs) (hl : len ≤ 1000) :
    Calls Tryz.prog 29 #[.slice A len cap, .int .i64 n] w (IntsAt (partE zs n) (partT zs n) w) := by
  have HV := Lib.hid (fun W (hb : Below w.heap.size w W) => validNumbers_any A len cap zs W (hI.below hb) (by omega))
  unfold partE partT
  cases hv : numB zs
  · rw [hv] at HV
    rw [if_neg (by decide), if_neg (by decide)]
    clear hI hv
    go_enter Tryz.func29, Tryz.ntmps29
    go_wp2_with fail
    refine (HV.out _ (by (with_reducible repeat first | exact Below.refl _ _ | assumption | ((first | refine Below.setCell ?_ ?_ _ | refine Below.alloc ?_ ?_ _); rotate_left; exact (by first | omega | (simp; done) | (simp; omega))) | refine Below.drew ?_ | refine Below_drewN ?_ _))).mono ?_
    rintro e w1 ⟨rfl, hb⟩
    go_wp2_with fail
    go_ret2
    exact IntsAt.nil (by (with_reducible repeat first | exact Below.refl _ _ | assumption | ((first | refine Below.setCell ?_ ?_ _ | refine Below.alloc ?_ ?_ _); rotate_left; exact (by first | omega | (simp; done) | (simp; omega))) | refine Below.drew ?_ | refine Below_drewN ?_ _))
  rw [hv] at HV
  rw [if_pos rfl, if_pos rfl]
  cases hw : wthn n 0 8
  · rw [if_neg (by decide), if_neg (by decide)]
    clear hI hv
    go_enter Tryz.func29, Tryz.ntmps29
    go_wp2_with fail
    refine (HV.out _ (by (with_reducible repeat first | exact Below.refl _ _ | assumption | ((first | refine Below.setCell ?_ ?_ _ | refine Below.alloc ?_ ?_ _); rotate_left; exact (by first | omega | (simp; done) | (simp; omega))) | refine Below.drew ?_ | refine Below_drewN ?_ _))).mono ?_
    rintro e w1 ⟨rfl, hb⟩
    go_wp2_with (go_at_call 32; refine (kwithin_any _ _ _ _).mono ?_; rintro e w2 ⟨rfl, rfl⟩; rw [hw])
    go_ret2
    exact IntsAt.nil (by (with_reducible repeat first | exact Below.refl _ _ | assumption | ((first | refine Below.setCell ?_ ?_ _ | refine Below.alloc ?_ ?_ _); rotate_left; exact (by first | omega | (simp; done) | (simp; omega))) | refine Below.drew ?_ | refine Below_drewN ?_ _))
  rw [if_pos rfl, if_pos rfl]
  obtain ⟨n0, n1⟩ := wthn_iff.1 hw
  have HG : Hid (∀ (k : Nat) x, zs[k]? = some x → ((partL zs n).map (Value.int .i64))[k]? = some (.int .i64 ((x * n).tdiv 8)) ∧ IntKind.i64.wrap (x * n) = x * n ∧ IntKind.i64.wrap ((x * n).tdiv 8) = (x * n).tdiv 8) := Lib.hid (fun k x hx => by
    obtain ⟨x0, x1⟩ := numB_get hv hx
    obtain ⟨m0, m1⟩ := mul_in x0 x1 n0 n1
    obtain ⟨q0, q1⟩ := tdiv_in (by decide : (0 : Int) < 8) m0 m1
    exact ⟨by rw [List.getElem?_map, partL_get hx]; rfl, IntWalk.i64_in _ (by omega), IntWalk.i64_in _ (by omega)⟩)
  have HL : Hid (((partL zs n).map (Value.int .i64)).length = len) := Lib.hid (by rw [List.length_map, partL_len, hI.1])
  have HP : Hid ((partL zs n).length = len) := Lib.hid (by rw [partL_len, hI.1])
  have HT0 : Hid (∃ T, (partL zs n).map (Value.int .i64) = T) := Lib.hid ⟨_, rfl⟩
  have HI := Lib.hid hI
  obtain ⟨T, hT⟩ := HT0.out
  rw [hT] at HG HL
  have HT := Lib.hid hT
  clear hI hv hT HT0 n0 n1
  generalize partL zs n = PT at *
  have hmk := run_make_row' (P := Tryz.prog) 30 3 (.int .i64 0) 8 Tryz.underlying30 (by kernel_rfl) rfl .i64 .i64 len (by omega) (by omega)
  go_enter Tryz.func29, Tryz.ntmps29
  go_wp2_with fail
  refine (HV.out _ (by (with_reducible repeat first | exact Below.refl _ _ | assumption | ((first | refine Below.setCell ?_ ?_ _ | refine Below.alloc ?_ ?_ _); rotate_left; exact (by first | omega | (simp; done) | (simp; omega))) | refine Below.drew ?_ | refine Below_drewN ?_ _))).mono ?_
  rintro e w1 ⟨rfl, hb⟩
  go_upto_region 6 with (go_at_call 32; refine (kwithin_any _ _ _ _).mono ?_; rintro e w2 ⟨rfl, rfl⟩; rw [hw])
  have hR0 : Hid (RowL w1.heap.size (T.take 0 ++ List.replicate (len - 0) (.int .i64 0)) (w1.alloc (.cells (madeCells #[.int .i64 0] len) 3))) := Lib.hid (by rw [fill_none]; exact (ZeroL.new w1 len 3 (by omega)).row)
  have hb1 : Below w1.heap.size w1 (w1.alloc (.cells (madeCells #[.int .i64 0] len) 3)) := by (with_reducible repeat first | exact Below.refl _ _ | assumption | ((first | refine Below.setCell ?_ ?_ _ | refine Below.alloc ?_ ?_ _); rotate_left; exact (by first | omega | (simp; done) | (simp; omega))) | refine Below.drew ?_ | refine Below_drewN ?_ _)
  obtain ⟨W1, hW1⟩ : ∃ W, w1.alloc (.cells (madeCells #[.int .i64 0] len) 3) = W := ⟨_, rfl⟩
  rw [hW1] at hR0 hb1 ⊢
  clear hW1 hmk HV
  go_wp2_with fail
  go_loopw [7, 8, 20] (fun _ _ i wr => ∃ j : Nat, j ≤ len ∧ i = .int .i64 j ∧ Hid (RowL w1.heap.size (T.take j ++ List.replicate (len - j) (.int .i64 0)) wr) ∧ Below w1.heap.size w1 wr) (fun _ _ i _ => len - (intOf i).toNat)
  case atStart => exact ⟨0, Nat.zero_le _, rfl, hR0, hb1⟩
  case round =>
    obtain ⟨j, hj, rfl, hR, hB⟩ := hrel
    have sz := hB.size
    have szb := hb.size
    by_cases hlt : j < len
    · obtain ⟨hzl, hcl⟩ := HI.out.below (hb.trans (hB.mono hb.size))
      obtain ⟨b, o, rfl, hb0, hcl⟩ := hcl (by omega)
      obtain ⟨x, hx⟩ : ∃ x, zs[j]? = some x := ⟨_, List.getElem?_eq_getElem (by omega)⟩
      have x0 : wr.cell? ⟨b, o + j, none⟩ = some (.int .i64 x) := by have h := hcl j x hx 0 _ rfl; simpa using h
      obtain ⟨g1, v1, v2⟩ := HG.out j x hx
      have HT2 := Lib.hid g1
      have r0 := hR.out.cell j (.int .i64 0) (fill_get T len j _ HL.out hlt)
      have rf := hR.out.mark j (by rw [fill_len T len j _ HL.out (by omega)]; exact hlt)
      have HR3 := Lib.hid (hR.out.fill HL.out hlt HT2.out)
      have hbk : w1.heap.size < wr.heap.size := hR.out.lt
      have jn : ((j : Int)).toNat = j := by omega
      have j0 : (0 : Int) ≤ j := by omega
      clear hcl hx hzl g1 HG HI HT hR0 hb1 hR
      go_wp2_with fail
      go_roundw
      case rel => exact ⟨j + 1, by omega, by go_num, HR3, by (with_reducible repeat first | exact Below.refl _ _ | assumption | ((first | refine Below.setCell ?_ ?_ _ | refine Below.alloc ?_ ?_ _); rotate_left; exact (by first | omega | (simp; done) | (simp; omega))) | refine Below.drew ?_ | refine Below_drewN ?_ _)⟩
      case measure => simp [intOf]; omega
    · obtain rfl : j = len := by omega
      have hR2 := hR.out
      rw [fill_all T j _ HL.out, ← HT.out] at hR2
      have HR3 := Lib.hid hR2
      clear hR hR0 hb1 hR2 HG HI
      have hP := HP.out
      go_wp2_with fail
      go_ret2
      refine ⟨some ⟨w1.heap.size, 0, none⟩, j, by rw [hP]; rfl, ?_, by omega, hb.trans (hB.mono hb.size)⟩
      exact HR3.out.isI rfl

set_option maxRecDepth 100000 in
set_option maxHeartbeats 8000000 in
theorem rnumbers_any (A : Option Addr) (len cap : Nat) (zs : List Int) (w : World) (hI : IsT 1 intCells w A len zs) (hl : len ≤ 1000000000000000) :
    Calls Tryz.prog 37 #[.slice A len cap] w (Ret (.bool (numB zs)) w) := by
  have HI := Lib.hid hI
  have HG : Hid (numB (zs.drop 0) = numB zs) := Lib.hid rfl
  generalize numB zs = G at *
  clear hI
  go_enter Tryz.func37, Tryz.ntmps37
  go_wp2_with fail
  go_loopw [3] (fun i wr => ∃ j : Nat, j ≤ len ∧ i = .int .i64 j ∧ Hid (numB (zs.drop j) = G) ∧ Below w.heap.size w wr) (fun i _ => len - (intOf i).toNat)
  case atStart => exact ⟨0, Nat.zero_le _, rfl, HG, Below.refl _ _⟩
  case round =>
    obtain ⟨j, hj, rfl, hG, hB⟩ := hrel
    by_cases hlt : j < len
    · obtain ⟨hzl, hcl⟩ := HI.out.below hB
      obtain ⟨b, o, rfl, hb0, hcl⟩ := hcl (by omega)
      obtain ⟨x, hx⟩ : ∃ x, zs[j]? = some x := ⟨_, List.getElem?_eq_getElem (by omega)⟩
      have x0 : wr.cell? ⟨b, o + j, none⟩ = some (.int .i64 x) := by have h := hcl j x hx 0 _ rfl; simpa using h
      have HS : Hid (numB (zs.drop j) = (wthn x (-1000000000000000) 1000000000000000 && numB (zs.drop (j + 1)))) := Lib.hid (by
        obtain ⟨k1, rfl⟩ := List.getElem?_eq_some_iff.1 hx
        rw [List.drop_eq_getElem_cons k1]; rfl)
      clear hcl hx hzl HG
      cases hp : wthn x (-1000000000000000) 1000000000000000
      · have HN : Hid (false = G) := Lib.hid (by rw [← hG.out, HS.out, hp]; rfl)
        go_wp2_with (go_at_call 34; refine (rwithin7_any _ _ _ _).mono ?_; rintro e w2 ⟨rfl, rfl⟩; rw [hp])
        go_ret
        exact ⟨by rw [← HN.out]; rfl, by (with_reducible repeat first | exact Below.refl _ _ | assumption | ((first | refine Below.setCell ?_ ?_ _ | refine Below.alloc ?_ ?_ _); rotate_left; exact (by first | omega | (simp; done) | (simp; omega))) | refine Below.drew ?_ | refine Below_drewN ?_ _)⟩
      · have HN : Hid (numB (zs.drop (j + 1)) = G) := Lib.hid (by rw [← hG.out, HS.out, hp]; rfl)
        go_wp2_with (go_at_call 34; refine (rwithin7_any _ _ _ _).mono ?_; rintro e w2 ⟨rfl, rfl⟩; rw [hp])
        go_roundw
        case rel => exact ⟨j + 1, by omega, by go_num, HN, by (with_reducible repeat first | exact Below.refl _ _ | assumption | ((first | refine Below.setCell ?_ ?_ _ | refine Below.alloc ?_ ?_ _); rotate_left; exact (by first | omega | (simp; done) | (simp; omega))) | refine Below.drew ?_ | refine Below_drewN ?_ _)⟩
        case measure => simp [intOf]; omega
    · have HN : Hid (true = G) := Lib.hid (by rw [← hG.out, List.drop_of_length_le (by rw [HI.out.1]; omega)]; rfl)
      go_wp2
      go_ret
      exact ⟨by rw [← HN.out]; rfl, hB⟩

end Go.Proofs.YtnikdbglpimadaaGreat
end
section
/- The laws of layer 7: ints, large, over this seat's translation (written by mk_cti.py). -/
namespace Go.Proofs.YtnikdbglpimadaaGreat
set_option linter.unusedVariables false
set_option linter.unusedSimpArgs false
open Go.RowKit Go.Shelf

theorem sameI_drop {xs ys : List Int} {k : Nat} {a b : Int} (h1 : xs[k]? = some a) (h2 : ys[k]? = some b) : decide (xs.drop k = ys.drop k) = (decide (a = b) && decide (xs.drop (k + 1) = ys.drop (k + 1))) := by
  obtain ⟨k1, rfl⟩ := List.getElem?_eq_some_iff.1 h1
  obtain ⟨k2, rfl⟩ := List.getElem?_eq_some_iff.1 h2
  rw [List.drop_eq_getElem_cons k1, List.drop_eq_getElem_cons k2]
  simp only [List.cons.injEq, Bool.decide_and]

set_option maxRecDepth 100000 in
set_option maxHeartbeats 4000000 in
theorem ints_any (A B : Option Addr) (la ca lb cb : Nat) (xs ys : List Int) (w : World) (h1 : IsT 1 intCells w A la xs) (h2 : IsT 1 intCells w B lb ys) (l1 : la ≤ 1000000000000000) (l2 : lb ≤ 1000000000000000) :
    Calls Tryz.prog 13 #[.slice A la ca, .slice B lb cb] w (Ret (.bool (decide (xs = ys))) w) := by
  have n1 := h1.1
  have n2 := h2.1
  have I1 := Lib.hid h1
  have I2 := Lib.hid h2
  have HG : Hid (decide (xs = ys) = decide (xs.drop 0 = ys.drop 0)) := Lib.hid rfl
  have HN : Hid (la ≠ lb → false = decide (xs = ys)) := Lib.hid (fun h => (decide_eq_false (fun e => h (by rw [← n1, ← n2, e]))).symm)
  clear h1 h2
  generalize decide (xs = ys) = G at *
  by_cases b1 : la = lb
  · have e1 := (int_eq la lb).trans (decide_eq_true b1)
    subst b1
    have HG2 : Hid (decide (xs.drop 0 = ys.drop 0) = G) := Lib.hid HG.out.symm
    clear HG HN
    go_enter Tryz.func13, Tryz.ntmps13
    go_wp2_with fail
    go_loopw [5] (fun i wr => ∃ j : Nat, j ≤ la ∧ i = .int .i64 j ∧ Hid (decide (xs.drop j = ys.drop j) = G) ∧ Below w.heap.size w wr) (fun i _ => la - (intOf i).toNat)
    case atStart => exact ⟨0, Nat.zero_le _, rfl, HG2, by (with_reducible repeat first | exact Below.refl _ _ | assumption | ((first | refine Below.setCell ?_ ?_ _ | refine Below.alloc ?_ ?_ _); rotate_left; exact (by first | omega | (simp; done) | (simp; omega))) | refine Below.drew ?_ | refine Below_drewN ?_ _)⟩
    case round =>
      obtain ⟨j, hj, rfl, hG, hB⟩ := hrel
      have sz0 := hB.size
      by_cases hlt : j < la
      · obtain ⟨-, hcl1⟩ := I1.out.below hB
        obtain ⟨b1, o1, rfl, hb1, hcl1⟩ := hcl1 (by omega)
        obtain ⟨-, hcl2⟩ := I2.out.below hB
        obtain ⟨b2, o2, rfl, hb2, hcl2⟩ := hcl2 (by omega)
        obtain ⟨x, hx⟩ : ∃ x, xs[j]? = some x := ⟨_, List.getElem?_eq_getElem (by omega)⟩
        obtain ⟨y, hy⟩ : ∃ y, ys[j]? = some y := ⟨_, List.getElem?_eq_getElem (by omega)⟩
        have x0 : wr.cell? ⟨b1, o1 + j, none⟩ = some (.int .i64 x) := by have h := hcl1 j x hx 0 _ rfl; simpa using h
        have y0 : wr.cell? ⟨b2, o2 + j, none⟩ = some (.int .i64 y) := by have h := hcl2 j y hy 0 _ rfl; simpa using h
        have HS := Lib.hid (hG.out.symm.trans (sameI_drop hx hy))
        clear hcl1 hcl2 hx hy hG
        have HZ : Hid (∀ w' : World, Below wr.heap.size wr w' → (Below wr.heap.size wr w' ∧ w'.cell? ⟨b1, o1 + j, none⟩ = some (.int .i64 x) ∧ w'.cell? ⟨b2, o2 + j, none⟩ = some (.int .i64 y))) := Lib.hid (fun w' h => ⟨h, (h.cell (p := ⟨b1, o1 + j, none⟩) hb1).trans x0, (h.cell (p := ⟨b2, o2 + j, none⟩) hb2).trans y0⟩)
        have jc : (0 : Int) ≤ j := by omega
        have jn : ((j : Int)).toNat = j := by omega
        by_cases e : x = y
        · have e2 : (x == y) = true := by rw [e]; simp
          have HT : Hid (decide (xs.drop (j + 1) = ys.drop (j + 1)) = G) := Lib.hid (by rw [HS.out, decide_eq_true e, Bool.true_and])
          clear HS
          go_wp2_with fail
          go_region_held3 (fun w' => Below wr.heap.size wr w' ∧ w'.cell? ⟨b1, o1 + j, none⟩ = some (.int .i64 x) ∧ w'.cell? ⟨b2, o2 + j, none⟩ = some (.int .i64 y)) (exact HZ.out _ (by (repeat first | with_reducible exact Below.refl _ _ | with_reducible assumption | with_reducible exact (‹Below _ _ _ ∧ _›).1 | (with_reducible refine Below.alloc ?_ ?_ _; rotate_left; exact (by first | omega | (simp; done) | (simp; omega))) | with_reducible refine Below.drew ?_))) (fail)
          all_goals go_wp2_with fail
          go_roundw
          case rel => exact ⟨j + 1, by omega, by go_num, HT, by (with_reducible repeat first | exact Below.refl _ _ | assumption | ((first | refine Below.setCell ?_ ?_ _ | refine Below.alloc ?_ ?_ _); rotate_left; exact (by first | omega | (simp; done) | (simp; omega))) | refine Below.drew ?_ | refine Below_drewN ?_ _)⟩
          case measure => simp [intOf]; omega
        · have e2 : (x == y) = false := by rw [beq_eq_false_iff_ne]; exact e
          have HT : Hid (false = G) := Lib.hid (by rw [HS.out, decide_eq_false e, Bool.false_and])
          clear HS
          go_wp2_with fail
          go_region_held3 (fun w' => Below wr.heap.size wr w' ∧ w'.cell? ⟨b1, o1 + j, none⟩ = some (.int .i64 x) ∧ w'.cell? ⟨b2, o2 + j, none⟩ = some (.int .i64 y)) (exact HZ.out _ (by (repeat first | with_reducible exact Below.refl _ _ | with_reducible assumption | with_reducible exact (‹Below _ _ _ ∧ _›).1 | (with_reducible refine Below.alloc ?_ ?_ _; rotate_left; exact (by first | omega | (simp; done) | (simp; omega))) | with_reducible refine Below.drew ?_))) (fail)
          all_goals go_wp2_with fail
          go_ret
          exact ⟨by rw [← HT.out]; rfl, by (with_reducible repeat first | exact Below.refl _ _ | assumption | ((first | refine Below.setCell ?_ ?_ _ | refine Below.alloc ?_ ?_ _); rotate_left; exact (by first | omega | (simp; done) | (simp; omega))) | refine Below.drew ?_ | refine Below_drewN ?_ _)⟩
      · have HT : Hid (true = G) := Lib.hid (by
          have h := hG.out
          rw [List.drop_of_length_le (by omega), List.drop_of_length_le (by omega)] at h
          exact h)
        clear hG
        go_wp2_with fail
        go_ret
        exact ⟨by rw [← HT.out]; rfl, by (with_reducible repeat first | exact Below.refl _ _ | assumption | ((first | refine Below.setCell ?_ ?_ _ | refine Below.alloc ?_ ?_ _); rotate_left; exact (by first | omega | (simp; done) | (simp; omega))) | refine Below.drew ?_ | refine Below_drewN ?_ _)⟩
  · have e1 := (int_eq la lb).trans (decide_eq_false b1)
    have HT := Lib.hid (HN.out b1)
    clear HG HN
    go_enter Tryz.func13, Tryz.ntmps13
    go_wp2_with fail
    go_ret
    exact ⟨by rw [← HT.out]; rfl, by (with_reducible repeat first | exact Below.refl _ _ | assumption | ((first | refine Below.setCell ?_ ?_ _ | refine Below.alloc ?_ ?_ _); rotate_left; exact (by first | omega | (simp; done) | (simp; omega))) | refine Below.drew ?_ | refine Below_drewN ?_ _)⟩

def largeB (M : MachD) (R : MachR) : Bool := decide (13 < (R.la : Int)) || (decide (17 < (R.lb : Int)) || (decide (17 < (R.lc : Int)) || (decide (25 < (R.ld : Int)) || decide (100 < (M.name.size : Int)))))
theorem largeB_bd {M : MachD} {R : MachR} (h : largeB M R = false) : R.la ≤ 13 ∧ R.lb ≤ 17 ∧ R.lc ≤ 17 ∧ R.ld ≤ 25 ∧ M.name.size ≤ 100 := by
  unfold largeB at h
  simp only [Bool.or_eq_false_iff, decide_eq_false_iff_not] at h
  omega

set_option maxRecDepth 100000 in
set_option maxHeartbeats 8000000 in
theorem large_any (R : MachR) (M : MachD) (w : World) :
    Calls Tryz.prog 7 #[.agg (machCells R M)] w (Ret (.bool (largeB M R)) w) := by
  obtain ⟨A, B, Cl, D, la, ca, lb, cb, lc, cl, ld, cd⟩ := R
  obtain ⟨name, coils, shells, limits, ⟨r, z, nr, nz, step⟩, sensors⟩ := M
  unfold largeB
  dsimp only
  show Calls Tryz.prog 7 #[.agg #[.string name, .slice A la ca, .slice B lb cb, .slice Cl lc cl, .int .i64 r, .int .i64 z, .int .i64 nr, .int .i64 nz, .int .i64 step, .slice D ld cd]] w _
  cases q0 : decide (13 < (la : Int))
  rotate_left
  · go_enter Tryz.func7, Tryz.ntmps7
    go_wp2_with fail
    go_ret
    exact ⟨by simp, by (with_reducible repeat first | exact Below.refl _ _ | assumption | ((first | refine Below.setCell ?_ ?_ _ | refine Below.alloc ?_ ?_ _); rotate_left; exact (by first | omega | (simp; done) | (simp; omega))) | refine Below.drew ?_ | refine Below_drewN ?_ _)⟩
  cases q1 : decide (17 < (lb : Int))
  rotate_left
  · go_enter Tryz.func7, Tryz.ntmps7
    go_wp2_with fail
    go_ret
    exact ⟨by simp, by (with_reducible repeat first | exact Below.refl _ _ | assumption | ((first | refine Below.setCell ?_ ?_ _ | refine Below.alloc ?_ ?_ _); rotate_left; exact (by first | omega | (simp; done) | (simp; omega))) | refine Below.drew ?_ | refine Below_drewN ?_ _)⟩
  cases q2 : decide (17 < (lc : Int))
  rotate_left
  · go_enter Tryz.func7, Tryz.ntmps7
    go_wp2_with fail
    go_ret
    exact ⟨by simp, by (with_reducible repeat first | exact Below.refl _ _ | assumption | ((first | refine Below.setCell ?_ ?_ _ | refine Below.alloc ?_ ?_ _); rotate_left; exact (by first | omega | (simp; done) | (simp; omega))) | refine Below.drew ?_ | refine Below_drewN ?_ _)⟩
  cases q3 : decide (25 < (ld : Int))
  rotate_left
  · go_enter Tryz.func7, Tryz.ntmps7
    go_wp2_with fail
    go_ret
    exact ⟨by simp, by (with_reducible repeat first | exact Below.refl _ _ | assumption | ((first | refine Below.setCell ?_ ?_ _ | refine Below.alloc ?_ ?_ _); rotate_left; exact (by first | omega | (simp; done) | (simp; omega))) | refine Below.drew ?_ | refine Below_drewN ?_ _)⟩
  cases q4 : decide (100 < (name.size : Int))
  rotate_left
  · go_enter Tryz.func7, Tryz.ntmps7
    go_wp2_with fail
    go_ret
    exact ⟨by simp, by (with_reducible repeat first | exact Below.refl _ _ | assumption | ((first | refine Below.setCell ?_ ?_ _ | refine Below.alloc ?_ ?_ _); rotate_left; exact (by first | omega | (simp; done) | (simp; omega))) | refine Below.drew ?_ | refine Below_drewN ?_ _)⟩
  go_enter Tryz.func7, Tryz.ntmps7
  go_wp2_with fail
  go_ret
  exact ⟨by simp, by (with_reducible repeat first | exact Below.refl _ _ | assumption | ((first | refine Below.setCell ?_ ?_ _ | refine Below.alloc ?_ ?_ _); rotate_left; exact (by first | omega | (simp; done) | (simp; omega))) | refine Below.drew ?_ | refine Below_drewN ?_ _)⟩

end Go.Proofs.YtnikdbglpimadaaGreat
end
