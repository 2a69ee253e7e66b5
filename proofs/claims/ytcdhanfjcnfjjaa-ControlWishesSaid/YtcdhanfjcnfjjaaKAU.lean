import Derived.Test.YtcdhanfjcnfjjaaKAK
import Derived.Test.YtcdhanfjcnfjjaaKAN
import Derived.Test.YtcdhanfjcnfjjaaKAQ
import Derived.Test.YtcdhanfjcnfjjaaKAT
section
/- Package control and its specification: Part, over this seat's translation (written by mk_ctp.py). -/
namespace Go.Proofs.Ytcdhanfjcnfjjaa
set_option linter.unusedVariables false
set_option linter.unusedSimpArgs false
open Go.RowKit Go.Shelf

/-- What a call that answers a list of ints and an error number answers. -/
def IntsAt (E : Int) (T : List Int) (w : World) (e : Ending) (w' : World) : Prop :=
  ∃ (A : Option Addr) (c : Nat), e = .returned (.tuple #[.slice A T.length c, .int .i64 E]) ∧ IsT 1 intCells w' A T.length T ∧ T.length ≤ 1000000 ∧ Below w.heap.size w w'
theorem isT_none (w : World) : IsT 1 intCells w none 0 [] := ⟨rfl, fun h => absurd h (by omega)⟩
theorem IntsAt.nil {E : Int} {w w' : World} (h : Below w.heap.size w w') : IntsAt E [] w (.returned (.tuple #[.slice none 0 0, .int .i64 E])) w' := ⟨none, 0, rfl, isT_none w', by simp, h⟩
theorem tdiv_in {a b B : Int} (hb : 0 < b) (h0 : -B ≤ a) (h1 : a ≤ B) : -B ≤ a.tdiv b ∧ a.tdiv b ≤ B := by
  rcases Int.le_total 0 a with h | h
  · rw [Int.tdiv_eq_ediv_of_nonneg h]
    have h2 := Int.ediv_le_self b h
    have h3 := Int.ediv_nonneg h (by omega : 0 ≤ b)
    omega
  · have e : a.tdiv b = -((-a).tdiv b) := by rw [Int.neg_tdiv, Int.neg_neg]
    rw [e, Int.tdiv_eq_ediv_of_nonneg (by omega)]
    have h2 := Int.ediv_le_self b (by omega : 0 ≤ -a)
    have h3 := Int.ediv_nonneg (by omega : 0 ≤ -a) (by omega : 0 ≤ b)
    omega
def partL (l : List Int) (n : Int) : List Int := l.map fun x => (x * n).tdiv 8
def partE (l : List Int) (n : Int) : Int := if numB l = true then if wthn n 0 8 = true then 0 else 7 else 1
def partT (l : List Int) (n : Int) : List Int := if numB l = true then if wthn n 0 8 = true then partL l n else [] else []
theorem numB_get {l : List Int} (h : numB l = true) {k : Nat} {x : Int} (hx : l[k]? = some x) : -1000000000000000 ≤ x ∧ x ≤ 1000000000000000 :=
  wthn_iff.1 (List.all_eq_true.1 h x (List.mem_of_getElem? hx))
theorem partL_get {l : List Int} {n : Int} {k : Nat} {x : Int} (hx : l[k]? = some x) : (partL l n)[k]? = some ((x * n).tdiv 8) := by
  unfold partL; rw [List.getElem?_map, hx]; rfl
theorem partL_len (l : List Int) (n : Int) : (partL l n).length = l.length := by unfold partL; simp
theorem mul_in {x n : Int} (h0 : -1000000000000000 ≤ x) (h1 : x ≤ 1000000000000000) (n0 : 0 ≤ n) (n1 : n ≤ 8) : -8000000000000000 ≤ x * n ∧ x * n ≤ 8000000000000000 := by
  have a1 := Int.mul_le_mul_of_nonneg_right h1 n0
  have a2 := Int.mul_le_mul_of_nonneg_right h0 n0
  omega

set_option maxRecDepth 100000 in
set_option maxHeartbeats 8000000 in
theorem part_any (A : Option Addr) (len cap : Nat) (zs : List Int) (n : Int) (w : World) (hI : IsT 1 intCells w A len zs) (hl : len ≤ 1000) :
    Calls Try.prog 15 #[.slice A len cap, .int .i64 n] w (IntsAt (partE zs n) (partT zs n) w) := by
  have HV := Lib.hid (fun W (hb : Below w.heap.size w W) => validNumbers_any A len cap zs W (hI.below hb) (by omega))
  unfold partE partT
  cases hv : numB zs
  · rw [hv] at HV
    rw [if_neg (by decide), if_neg (by decide)]
    clear hI hv
    go_enter Try.func15, Try.ntmps15
    go_wp2_with fail
    refine (HV.out _ (by (with_reducible repeat first | exact Below.refl _ _ | assumption | ((first | refine Below.setCell ?_ ?_ _ | refine Below.alloc ?_ ?_ _); rotate_left; exact (by first | omega | (simp; done) | (simp; omega))) | refine Below.drew ?_ | refine Below_drewN ?_ _))).mono ?_
    rintro e w1 ⟨rfl, hb⟩
    go_wp2_with fail
    go_ret2
    exact IntsAt.nil (by (with_reducible repeat first | exact Below.refl _ _ | assumption | ((first | refine Below.setCell ?_ ?_ _ | refine Below.alloc ?_ ?_ _); rotate_left; exact (by first | omega | (simp; done) | (simp; omega))) | refine Below.drew ?_ | refine Below_drewN ?_ _))
  rw [hv] at HV
  rw [if_pos rfl, if_pos rfl]
  cases hw : wthn n 0 8
  · rw [if_neg (by decide), if_neg (by decide)]
    clear hI hv
    go_enter Try.func15, Try.ntmps15
    go_wp2_with fail
    refine (HV.out _ (by (with_reducible repeat first | exact Below.refl _ _ | assumption | ((first | refine Below.setCell ?_ ?_ _ | refine Below.alloc ?_ ?_ _); rotate_left; exact (by first | omega | (simp; done) | (simp; omega))) | refine Below.drew ?_ | refine Below_drewN ?_ _))).mono ?_
    rintro e w1 ⟨rfl, hb⟩
    go_wp2_with (go_at_call 22; refine (cwithin_any _ _ _ _).mono ?_; rintro e w2 ⟨rfl, rfl⟩; rw [hw])
    go_ret2
    exact IntsAt.nil (by (with_reducible repeat first | exact Below.refl _ _ | assumption | ((first | refine Below.setCell ?_ ?_ _ | refine Below.alloc ?_ ?_ _); rotate_left; exact (by first | omega | (simp; done) | (simp; omega))) | refine Below.drew ?_ | refine Below_drewN ?_ _))
  rw [if_pos rfl, if_pos rfl]
  obtain ⟨n0, n1⟩ := wthn_iff.1 hw
  have HG : Hid (∀ (k : Nat) x, zs[k]? = some x → ((partL zs n).map (Value.int .i64))[k]? = some (.int .i64 ((x * n).tdiv 8)) ∧ IntKind.i64.wrap (x * n) = x * n ∧ IntKind.i64.wrap ((x * n).tdiv 8) = (x * n).tdiv 8) := Lib.hid (fun k x hx => by
    obtain ⟨x0, x1⟩ := numB_get hv hx
    obtain ⟨m0, m1⟩ := mul_in x0 x1 n0 n1
    obtain ⟨q0, q1⟩ := tdiv_in (by decide : (0 : Int) < 8) m0 m1
    exact ⟨by rw [List.getElem?_map, partL_get hx]; rfl, IntWalk.i64_in _ (by omega), IntWalk.i64_in _ (by omega)⟩)
  have HL : Hid (((partL zs n).map (Value.int .i64)).length = len) := Lib.hid (by rw [List.length_map, partL_len, hI.1])
  have HP : Hid ((partL zs n).length = len) := Lib.hid (by rw [partL_len, hI.1])
  have HT0 : Hid (∃ T, (partL zs n).map (Value.int .i64) = T) := Lib.hid ⟨_, rfl⟩
  have HI := Lib.hid hI
  obtain ⟨T, hT⟩ := HT0.out
  rw [hT] at HG HL
  have HT := Lib.hid hT
  clear hI hv hT HT0 n0 n1
  generalize partL zs n = PT at *
  have hmk := run_make_row' (P := Try.prog) 50 3 (.int .i64 0) 8 Try.underlying50 (by kernel_rfl) rfl .i64 .i64 len (by omega) (by omega)
  go_enter Try.func15, Try.ntmps15
  go_wp2_with fail
  refine (HV.out _ (by (with_reducible repeat first | exact Below.refl _ _ | assumption | ((first | refine Below.setCell ?_ ?_ _ | refine Below.alloc ?_ ?_ _); rotate_left; exact (by first | omega | (simp; done) | (simp; omega))) | refine Below.drew ?_ | refine Below_drewN ?_ _))).mono ?_
  rintro e w1 ⟨rfl, hb⟩
  go_upto_region 6 with (go_at_call 22; refine (cwithin_any _ _ _ _).mono ?_; rintro e w2 ⟨rfl, rfl⟩; rw [hw])
  have hR0 : Hid (RowL w1.heap.size (T.take 0 ++ List.replicate (len - 0) (.int .i64 0)) (w1.alloc (.cells (madeCells #[.int .i64 0] len) 3))) := Lib.hid (by rw [fill_none]; exact (ZeroL.new w1 len 3 (by omega)).row)
  have hb1 : Below w1.heap.size w1 (w1.alloc (.cells (madeCells #[.int .i64 0] len) 3)) := by (with_reducible repeat first | exact Below.refl _ _ | assumption | ((first | refine Below.setCell ?_ ?_ _ | refine Below.alloc ?_ ?_ _); rotate_left; exact (by first | omega | (simp; done) | (simp; omega))) | refine Below.drew ?_ | refine Below_drewN ?_ _)
  obtain ⟨W1, hW1⟩ : ∃ W, w1.alloc (.cells (madeCells #[.int .i64 0] len) 3) = W := ⟨_, rfl⟩
  rw [hW1] at hR0 hb1 ⊢
  clear hW1 hmk HV
  go_wp2_with fail
  go_loopw [7, 8, 20] (fun _ _ i wr => ∃ j : Nat, j ≤ len ∧ i = .int .i64 j ∧ Hid (RowL w1.heap.size (T.take j ++ List.replicate (len - j) (.int .i64 0)) wr) ∧ Below w1.heap.size w1 wr) (fun _ _ i _ => len - (intOf i).toNat)
  case atStart => exact ⟨0, Nat.zero_le _, rfl, hR0, hb1⟩
  case round =>
    obtain ⟨j, hj, rfl, hR, hB⟩ := hrel
    have sz := hB.size
    have szb := hb.size
    by_cases hlt : j < len
    · obtain ⟨hzl, hcl⟩ := HI.out.below (hb.trans (hB.mono hb.size))
      obtain ⟨b, o, rfl, hb0, hcl⟩ := hcl (by omega)
      obtain ⟨x, hx⟩ : ∃ x, zs[j]? = some x := ⟨_, List.getElem?_eq_getElem (by omega)⟩
      have x0 : wr.cell? ⟨b, o + j, none⟩ = some (.int .i64 x) := by have h := hcl j x hx 0 _ rfl; simpa using h
      obtain ⟨g1, v1, v2⟩ := HG.out j x hx
      have HT2 := Lib.hid g1
      have r0 := hR.out.cell j (.int .i64 0) (fill_get T len j _ HL.out hlt)
      have rf := hR.out.mark j (by rw [fill_len T len j _ HL.out (by omega)]; exact hlt)
      have HR3 := Lib.hid (hR.out.fill HL.out hlt HT2.out)
      have hbk : w1.heap.size < wr.heap.size := hR.out.lt
      have jn : ((j : Int)).toNat = j := by omega
      have j0 : (0 : Int) ≤ j := by omega
      clear hcl hx hzl g1 HG HI HT hR0 hb1 hR
      go_wp2_with fail
      go_roundw
      case rel => exact ⟨j + 1, by omega, by go_num, HR3, by (with_reducible repeat first | exact Below.refl _ _ | assumption | ((first | refine Below.setCell ?_ ?_ _ | refine Below.alloc ?_ ?_ _); rotate_left; exact (by first | omega | (simp; done) | (simp; omega))) | refine Below.drew ?_ | refine Below_drewN ?_ _)⟩
      case measure => simp [intOf]; omega
    · obtain rfl : j = len := by omega
      have hR2 := hR.out
      rw [fill_all T j _ HL.out, ← HT.out] at hR2
      have HR3 := Lib.hid hR2
      clear hR hR0 hb1 hR2 HG HI
      have hP := HP.out
      go_wp2_with fail
      go_ret2
      refine ⟨some ⟨w1.heap.size, 0, none⟩, j, by rw [hP]; rfl, ?_, by omega, hb.trans (hB.mono hb.size)⟩
      exact HR3.out.isI rfl

end Go.Proofs.Ytcdhanfjcnfjjaa
end
section
/- Package control and its specification: answer, over this seat's translation (written by mk_cta.py). -/
namespace Go.Proofs.Ytcdhanfjcnfjjaa
set_option linter.unusedVariables false
set_option linter.unusedSimpArgs false
open Go.RowKit Go.Shelf

def whj (g n : Nat → Int) : Nat → Int
  | 0 => 0
  | j + 1 => whj g n j + g j * (n j).tdiv 1000
def rsj (g n : Nat → Int) : Nat → Int
  | 0 => 0
  | j + 1 => rsj g n j + g j * (n j).tmod 1000
theorem prod_in {a b A B : Int} (a0 : -A ≤ a) (a1 : a ≤ A) (b0 : -B ≤ b) (b1 : b ≤ B) : -(A * B) ≤ a * b ∧ a * b ≤ A * B := by
  have hA : 0 ≤ A := by omega
  have hB : 0 ≤ B := by omega
  have h := Int.mul_le_mul (show (a.natAbs : Int) ≤ A by omega) (show (b.natAbs : Int) ≤ B by omega) (by omega) hA
  have h2 : ((a * b).natAbs : Int) = (a.natAbs : Int) * (b.natAbs : Int) := by rw [Int.natAbs_mul]; rfl
  omega
theorem tmod_in (a : Int) : -999 ≤ a.tmod 1000 ∧ a.tmod 1000 ≤ 999 := by
  have h := Int.tmod_lt_of_pos a (by decide : (0 : Int) < 1000)
  have h2 := Int.tmod_lt_of_pos (-a) (by decide : (0 : Int) < 1000)
  rw [Int.neg_tmod] at h2
  omega
theorem td_in {a : Int} (h0 : -1000000000000000 ≤ a) (h1 : a ≤ 1000000000000000) : -1000000000000 ≤ a.tdiv 1000 ∧ a.tdiv 1000 ≤ 1000000000000 := by
  have e := Int.mul_tdiv_add_tmod a 1000
  have m := tmod_in a
  omega
theorem whj_in {g n : Nat → Int} (hg : ∀ k, -1000000 ≤ g k ∧ g k ≤ 1000000) (hn : ∀ k, -1000000000000000 ≤ n k ∧ n k ≤ 1000000000000000) (j : Nat) : -((j : Int) * 1000000000000000000) ≤ whj g n j ∧ whj g n j ≤ (j : Int) * 1000000000000000000 := by
  induction j with
  | zero => simp [whj]
  | succ j ih =>
    obtain ⟨q0, q1⟩ := td_in (hn j).1 (hn j).2
    have h := prod_in (hg j).1 (hg j).2 q0 q1
    unfold whj
    omega
theorem rsj_in {g n : Nat → Int} (hg : ∀ k, -1000000 ≤ g k ∧ g k ≤ 1000000) (j : Nat) : -((j : Int) * 999000000) ≤ rsj g n j ∧ rsj g n j ≤ (j : Int) * 999000000 := by
  induction j with
  | zero => simp [rsj]
  | succ j ih =>
    obtain ⟨q0, q1⟩ := tmod_in (n j)
    have h := prod_in (hg j).1 (hg j).2 q0 q1
    unfold rsj
    omega
def dotj (g n : Nat → Int) : Nat → Int
  | 0 => 0
  | j + 1 => dotj g n j + g j * n j
theorem dotj_eq (g n : Nat → Int) (j : Nat) : dotj g n j = 1000 * whj g n j + rsj g n j := by
  induction j with
  | zero => rfl
  | succ j ih =>
    have e := Int.mul_tdiv_add_tmod (n j) 1000
    unfold dotj whj rsj
    rw [ih]
    generalize (n j).tdiv 1000 = q at *
    generalize (n j).tmod 1000 = m at *
    rw [← e, Int.mul_add, Int.mul_add, Int.mul_left_comm]
    omega
/-- The end of answer: from the whole quotients and the rests to the quotient rounded towards 0. -/
def endJ (a b : Int) : Int := if 0 < a + b.tdiv 1000 ∧ b.tmod 1000 < 0 then a + b.tdiv 1000 - 1 else if a + b.tdiv 1000 < 0 ∧ 0 < b.tmod 1000 then a + b.tdiv 1000 + 1 else a + b.tdiv 1000
theorem endJ_eq (a b : Int) : endJ a b = (1000 * a + b).tdiv 1000 := by
  have e := Int.mul_tdiv_add_tmod b 1000
  obtain ⟨m0, m1⟩ := tmod_in b
  unfold endJ
  generalize b.tdiv 1000 = q at *
  generalize b.tmod 1000 = m at *
  obtain rfl : b = 1000 * q + m := e.symm
  have h2 := Int.mul_tdiv_add_tmod (1000 * a + (1000 * q + m)) 1000
  have s := tmod_in (1000 * a + (1000 * q + m))
  have p1 : 0 ≤ 1000 * a + (1000 * q + m) → 0 ≤ (1000 * a + (1000 * q + m)).tmod 1000 := fun h => Int.tmod_nonneg _ h
  have p2 : 1000 * a + (1000 * q + m) ≤ 0 → (1000 * a + (1000 * q + m)).tmod 1000 ≤ 0 := fun h => by
    have h3 := Int.tmod_nonneg (a := -(1000 * a + (1000 * q + m))) 1000 (by omega)
    rw [Int.neg_tmod] at h3
    omega
  generalize (1000 * a + (1000 * q + m)).tdiv 1000 = Q at *
  generalize (1000 * a + (1000 * q + m)).tmod 1000 = M at *
  split
  · omega
  · split <;> omega

end Go.Proofs.Ytcdhanfjcnfjjaa
end
section
/- Package control and its specification: the contracts of answer, over this seat's translation (written by mk_ctb.py). -/
namespace Go.Proofs.Ytcdhanfjcnfjjaa
set_option linter.unusedVariables false
set_option linter.unusedSimpArgs false
open Go.RowKit Go.Shelf

set_option maxRecDepth 100000 in
set_option maxHeartbeats 8000000 in
theorem answer_any (A B : Option Addr) (ca cb : Nat) (gs ns : List Int) (w : World) (h1 : IsT 1 intCells w A 4 gs) (h2 : IsT 1 intCells w B 4 ns)
    (hg : ∀ k, -1000000 ≤ gs.getD k 0 ∧ gs.getD k 0 ≤ 1000000) (hn : ∀ k, -1000000000000000 ≤ ns.getD k 0 ∧ ns.getD k 0 ≤ 1000000000000000) :
    Calls Try.prog 24 #[.slice A 4 ca, .slice B 4 cb] w (Ret (.int .i64 ((dotj (fun k => gs.getD k 0) (fun k => ns.getD k 0) 4).tdiv 1000)) w) := by
  have HE0 : Hid (endJ (whj (fun k => gs.getD k 0) (fun k => ns.getD k 0) 4) (rsj (fun k => gs.getD k 0) (fun k => ns.getD k 0) 4) = (dotj (fun k => gs.getD k 0) (fun k => ns.getD k 0) 4).tdiv 1000) := Lib.hid (by rw [endJ_eq, dotj_eq])
  obtain ⟨g, hgg⟩ : ∃ g : Nat → Int, (fun k => gs.getD k 0) = g := ⟨_, rfl⟩
  obtain ⟨n, hnn⟩ : ∃ g : Nat → Int, (fun k => ns.getD k 0) = g := ⟨_, rfl⟩
  have HGK : Hid (∀ k, gs.getD k 0 = g k) := Lib.hid (fun k => by rw [← hgg])
  have HNK : Hid (∀ k, ns.getD k 0 = n k) := Lib.hid (fun k => by rw [← hnn])
  rw [hgg, hnn] at HE0 ⊢
  have HW := Lib.hid (whj_in (g := g) (n := n) (fun k => by rw [← HGK.out]; exact hg k) (fun k => by rw [← HNK.out]; exact hn k))
  have HR := Lib.hid (rsj_in (g := g) (n := n) (fun k => by rw [← HGK.out]; exact hg k))
  have HBg := Lib.hid (fun k => (by rw [← HGK.out]; exact hg k : -1000000 ≤ g k ∧ g k ≤ 1000000))
  have HBn := Lib.hid (fun k => (by rw [← HNK.out]; exact hn k : -1000000000000000 ≤ n k ∧ n k ≤ 1000000000000000))
  have I1 := Lib.hid h1
  have I2 := Lib.hid h2
  clear h1 h2 hg hn hgg hnn
  generalize (dotj g n 4).tdiv 1000 = K at *
  go_enter Try.func24, Try.ntmps24
  go_wp2_with fail
  go_loopw [5, 6, 7, 8, 12] (fun u5 u6 _ _ i wr => ∃ j : Nat, j ≤ 4 ∧ i = .int .i64 j ∧ u5 = .int .i64 (whj g n j) ∧ u6 = .int .i64 (rsj g n j) ∧ Below w.heap.size w wr) (fun _ _ _ _ i _ => 4 - (intOf i).toNat)
  case atStart => exact ⟨0, by omega, rfl, rfl, rfl, Below.refl _ _⟩
  case round =>
    obtain ⟨j, hj, rfl, rfl, rfl, hB⟩ := hrel
    by_cases hlt : j < 4
    · obtain ⟨z1, hcl1⟩ := I1.out.below hB
      obtain ⟨b1, o1, rfl, hb1, hcl1⟩ := hcl1 (by omega)
      obtain ⟨z2, hcl2⟩ := I2.out.below hB
      obtain ⟨b2, o2, rfl, hb2, hcl2⟩ := hcl2 (by omega)
      obtain ⟨x, hx⟩ : ∃ x, gs[j]? = some x := ⟨_, List.getElem?_eq_getElem (by omega)⟩
      obtain ⟨y, hy⟩ : ∃ y, ns[j]? = some y := ⟨_, List.getElem?_eq_getElem (by omega)⟩
      have x0 : wr.cell? ⟨b1, o1 + j, none⟩ = some (.int .i64 x) := by have h := hcl1 j x hx 0 _ rfl; simpa using h
      have y0 : wr.cell? ⟨b2, o2 + j, none⟩ = some (.int .i64 y) := by have h := hcl2 j y hy 0 _ rfl; simpa using h
      have ex : g j = x := by rw [← HGK.out, List.getD_eq_getElem?_getD, hx]; rfl
      have ey : n j = y := by rw [← HNK.out, List.getD_eq_getElem?_getD, hy]; rfl
      have HS : Hid (whj g n (j + 1) = whj g n j + x * y.tdiv 1000) := Lib.hid (by rw [← ex, ← ey]; rfl)
      have HT : Hid (rsj g n (j + 1) = rsj g n j + x * y.tmod 1000) := Lib.hid (by rw [← ex, ← ey]; rfl)
      have bg := HBg.out j
      have bn := HBn.out j
      rw [ex] at bg
      rw [ey] at bn
      have t1 := td_in bn.1 bn.2
      have t2 := tmod_in y
      have p1 := prod_in bg.1 bg.2 t1.1 t1.2
      have p2 := prod_in bg.1 bg.2 t2.1 t2.2
      have s1 := HW.out j
      have s2 := HR.out j
      have jc : (j : Int) ≤ 3 := by omega
      generalize whj g n j = a at *
      generalize rsj g n j = b at *
      have v1 : IntKind.i64.wrap (y.tdiv 1000) = y.tdiv 1000 := IntWalk.i64_in _ (by omega)
      have v2 : IntKind.i64.wrap (y.tmod 1000) = y.tmod 1000 := IntWalk.i64_in _ (by omega)
      have v3 : IntKind.i64.wrap (x * y.tdiv 1000) = x * y.tdiv 1000 := IntWalk.i64_in _ (by omega)
      have v4 : IntKind.i64.wrap (x * y.tmod 1000) = x * y.tmod 1000 := IntWalk.i64_in _ (by omega)
      have v5 : IntKind.i64.wrap (a + x * y.tdiv 1000) = a + x * y.tdiv 1000 := IntWalk.i64_in _ (by omega)
      have v6 : IntKind.i64.wrap (b + x * y.tmod 1000) = b + x * y.tmod 1000 := IntWalk.i64_in _ (by omega)
      have jn : ((j : Int)).toNat = j := by omega
      have j0 : (0 : Int) ≤ j := by omega
      clear hcl1 hcl2 hx hy ex ey z1 z2 bg bn t1 t2 p1 p2 s1 s2 HE0 HGK HNK
      go_wp2_with fail
      go_roundw
      case rel => exact ⟨j + 1, by omega, by go_num, by rw [HS.out], by rw [HT.out], by (with_reducible repeat first | exact Below.refl _ _ | assumption | ((first | refine Below.setCell ?_ ?_ _ | refine Below.alloc ?_ ?_ _); rotate_left; exact (by first | omega | (simp; done) | (simp; omega))) | refine Below.drew ?_ | refine Below_drewN ?_ _)⟩
      case measure => simp [intOf]; omega
    · obtain rfl : j = 4 := by omega
      have s1 := HW.out 4
      have s2 := HR.out 4
      have HE := Lib.hid HE0.out
      clear HE0 HGK HNK HBg HBn HW HR I1 I2
      generalize whj g n 4 = a at *
      generalize rsj g n 4 = b at *
      have q := Int.mul_tdiv_add_tmod b 1000
      have m := tmod_in b
      have v1 : IntKind.i64.wrap (b.tdiv 1000) = b.tdiv 1000 := IntWalk.i64_in _ (by omega)
      have v2 : IntKind.i64.wrap (b.tmod 1000) = b.tmod 1000 := IntWalk.i64_in _ (by omega)
      have v3 : IntKind.i64.wrap (a + b.tdiv 1000) = a + b.tdiv 1000 := IntWalk.i64_in _ (by omega)
      have v4 : IntKind.i64.wrap (a + b.tdiv 1000 - 1) = a + b.tdiv 1000 - 1 := IntWalk.i64_in _ (by omega)
      have v5 : IntKind.i64.wrap (a + b.tdiv 1000 + 1) = a + b.tdiv 1000 + 1 := IntWalk.i64_in _ (by omega)
      clear q m s1 s2
      by_cases k1 : 0 < a + b.tdiv 1000
      · have d1 : decide (0 < a + b.tdiv 1000) = true := decide_eq_true k1
        by_cases k2 : b.tmod 1000 < 0
        · have d2 : decide (b.tmod 1000 < 0) = true := decide_eq_true k2
          go_wp2_with fail
          go_ret
          exact ⟨by rw [← HE.out, show endJ a b = a + b.tdiv 1000 - 1 by unfold endJ; rw [if_pos ⟨k1, k2⟩]]; rfl, by (with_reducible repeat first | exact Below.refl _ _ | assumption | ((first | refine Below.setCell ?_ ?_ _ | refine Below.alloc ?_ ?_ _); rotate_left; exact (by first | omega | (simp; done) | (simp; omega))) | refine Below.drew ?_ | refine Below_drewN ?_ _)⟩
        · have d2 : decide (b.tmod 1000 < 0) = false := decide_eq_false k2
          have d3 : decide (a + b.tdiv 1000 < 0) = false := decide_eq_false (by omega)
          go_wp2_with fail
          go_ret
          exact ⟨by rw [← HE.out, show endJ a b = a + b.tdiv 1000 by unfold endJ; rw [if_neg (by omega), if_neg (by omega)]]; rfl, by (with_reducible repeat first | exact Below.refl _ _ | assumption | ((first | refine Below.setCell ?_ ?_ _ | refine Below.alloc ?_ ?_ _); rotate_left; exact (by first | omega | (simp; done) | (simp; omega))) | refine Below.drew ?_ | refine Below_drewN ?_ _)⟩
      · have d1 : decide (0 < a + b.tdiv 1000) = false := decide_eq_false k1
        by_cases k2 : a + b.tdiv 1000 < 0
        · have d2 : decide (a + b.tdiv 1000 < 0) = true := decide_eq_true k2
          by_cases k3 : 0 < b.tmod 1000
          · have d3 : decide (0 < b.tmod 1000) = true := decide_eq_true k3
            go_wp2_with fail
            go_ret
            exact ⟨by rw [← HE.out, show endJ a b = a + b.tdiv 1000 + 1 by unfold endJ; rw [if_neg (by omega), if_pos ⟨k2, k3⟩]]; rfl, by (with_reducible repeat first | exact Below.refl _ _ | assumption | ((first | refine Below.setCell ?_ ?_ _ | refine Below.alloc ?_ ?_ _); rotate_left; exact (by first | omega | (simp; done) | (simp; omega))) | refine Below.drew ?_ | refine Below_drewN ?_ _)⟩
          · have d3 : decide (0 < b.tmod 1000) = false := decide_eq_false k3
            go_wp2_with fail
            go_ret
            exact ⟨by rw [← HE.out, show endJ a b = a + b.tdiv 1000 by unfold endJ; rw [if_neg (by omega), if_neg (by omega)]]; rfl, by (with_reducible repeat first | exact Below.refl _ _ | assumption | ((first | refine Below.setCell ?_ ?_ _ | refine Below.alloc ?_ ?_ _); rotate_left; exact (by first | omega | (simp; done) | (simp; omega))) | refine Below.drew ?_ | refine Below_drewN ?_ _)⟩
        · have d2 : decide (a + b.tdiv 1000 < 0) = false := decide_eq_false k2
          go_wp2_with fail
          go_ret
          exact ⟨by rw [← HE.out, show endJ a b = a + b.tdiv 1000 by unfold endJ; rw [if_neg (by omega), if_neg (by omega)]]; rfl, by (with_reducible repeat first | exact Below.refl _ _ | assumption | ((first | refine Below.setCell ?_ ?_ _ | refine Below.alloc ?_ ?_ _); rotate_left; exact (by first | omega | (simp; done) | (simp; omega))) | refine Below.drew ?_ | refine Below_drewN ?_ _)⟩

theorem cutL_big {T most : Int} (m0 : 0 ≤ most) (m1 : most ≤ 1000000) : (T ≥ 1000000000000 → cutL (T.tdiv 1000) most = most) ∧ (T ≤ -1000000000000 → cutL (T.tdiv 1000) most = -most) := by
  have e := Int.mul_tdiv_add_tmod T 1000
  have m := tmod_in T
  unfold cutL
  constructor <;> intro h <;> omega

set_option maxRecDepth 100000 in
set_option maxHeartbeats 8000000 in
theorem ranswer_any (g0 g1 g2 g3 r z y0 y1 most : Int) (w : World) (a0 : -1000000 ≤ g0) (a1 : g0 ≤ 1000000) (b0 : -1000000 ≤ g1) (b1 : g1 ≤ 1000000) (c0 : -1000000 ≤ g2) (c1 : g2 ≤ 1000000) (d0 : -1000000 ≤ g3) (d1 : g3 ≤ 1000000)
    (r0 : -1000000000000000 ≤ r) (r1 : r ≤ 1000000000000000) (z0 : -1000000000000000 ≤ z) (z1 : z ≤ 1000000000000000) (s0 : -1000000000 ≤ y0) (s1 : y0 ≤ 1000000000) (u0 : -1000000000 ≤ y1) (u1 : y1 ≤ 1000000000) (m0 : 0 ≤ most) (m1 : most ≤ 1000000) :
    Calls Try.prog 32 #[.agg #[.int .i64 g0, .int .i64 g1, .int .i64 g2, .int .i64 g3], .int .i64 r, .int .i64 z, .agg #[.int .i64 y0, .int .i64 y1], .int .i64 most] w (Ret (.int .i64 (cutL ((g0 * r + g1 * z + g2 * y0 + g3 * y1).tdiv 1000) most)) w) := by
  obtain ⟨T, hT⟩ : ∃ T, g0 * r + g1 * z + g2 * y0 + g3 * y1 = T := ⟨_, rfl⟩
  have er := Int.mul_tdiv_add_tmod r 1000000000
  have ez := Int.mul_tdiv_add_tmod z 1000000000
  have xr := Int.tmod_lt_of_pos r (by decide : (0 : Int) < 1000000000)
  have xr2 := Int.tmod_lt_of_pos (-r) (by decide : (0 : Int) < 1000000000)
  have xz := Int.tmod_lt_of_pos z (by decide : (0 : Int) < 1000000000)
  have xz2 := Int.tmod_lt_of_pos (-z) (by decide : (0 : Int) < 1000000000)
  rw [Int.neg_tmod] at xr2 xz2
  have v1 : IntKind.i64.wrap (r.tdiv 1000000000) = r.tdiv 1000000000 := IntWalk.i64_in _ (by omega)
  have v2 : IntKind.i64.wrap (z.tdiv 1000000000) = z.tdiv 1000000000 := IntWalk.i64_in _ (by omega)
  have v3 : IntKind.i64.wrap (r.tmod 1000000000) = r.tmod 1000000000 := IntWalk.i64_in _ (by omega)
  have v4 : IntKind.i64.wrap (z.tmod 1000000000) = z.tmod 1000000000 := IntWalk.i64_in _ (by omega)
  have k1 := prod_in (A := 1000000) (B := 1000001) a0 a1 (show -1000001 ≤ r.tdiv 1000000000 by omega) (by omega)
  have k2 := prod_in (A := 1000000) (B := 1000001) b0 b1 (show -1000001 ≤ z.tdiv 1000000000 by omega) (by omega)
  have k3 := prod_in (A := 1000000) (B := 1000000000) a0 a1 (show -1000000000 ≤ r.tmod 1000000000 by omega) (by omega)
  have k4 := prod_in (A := 1000000) (B := 1000000000) b0 b1 (show -1000000000 ≤ z.tmod 1000000000 by omega) (by omega)
  have k5 := prod_in c0 c1 s0 s1
  have k6 := prod_in d0 d1 u0 u1
  have HT : T = (g0 * r.tdiv 1000000000 + g1 * z.tdiv 1000000000) * 1000000000 + (g0 * r.tmod 1000000000 + g1 * z.tmod 1000000000 + g2 * y0 + g3 * y1) := by
    rw [← hT]
    have h1 : g0 * r = g0 * r.tdiv 1000000000 * 1000000000 + g0 * r.tmod 1000000000 := by
      conv => lhs; rw [← er, Int.mul_add, Int.mul_left_comm, Int.mul_comm]
    have h2 : g1 * z = g1 * z.tdiv 1000000000 * 1000000000 + g1 * z.tmod 1000000000 := by
      conv => lhs; rw [← ez, Int.mul_add, Int.mul_left_comm, Int.mul_comm]
    rw [h1, h2, Int.add_mul]
    omega
  rw [hT]
  have v5 : IntKind.i64.wrap (g0 * r.tdiv 1000000000) = g0 * r.tdiv 1000000000 := IntWalk.i64_in _ (by omega)
  have v6 : IntKind.i64.wrap (g1 * z.tdiv 1000000000) = g1 * z.tdiv 1000000000 := IntWalk.i64_in _ (by omega)
  have v7 : IntKind.i64.wrap (g0 * r.tdiv 1000000000 + g1 * z.tdiv 1000000000) = g0 * r.tdiv 1000000000 + g1 * z.tdiv 1000000000 := IntWalk.i64_in _ (by omega)
  have v8 : IntKind.i64.wrap (g0 * r.tmod 1000000000) = g0 * r.tmod 1000000000 := IntWalk.i64_in _ (by omega)
  have v9 : IntKind.i64.wrap (g1 * z.tmod 1000000000) = g1 * z.tmod 1000000000 := IntWalk.i64_in _ (by omega)
  have v10 : IntKind.i64.wrap (g0 * r.tmod 1000000000 + g1 * z.tmod 1000000000) = g0 * r.tmod 1000000000 + g1 * z.tmod 1000000000 := IntWalk.i64_in _ (by omega)
  have v11 : IntKind.i64.wrap (g2 * y0) = g2 * y0 := IntWalk.i64_in _ (by omega)
  have v12 : IntKind.i64.wrap (g3 * y1) = g3 * y1 := IntWalk.i64_in _ (by omega)
  have v13 : IntKind.i64.wrap (g0 * r.tmod 1000000000 + g1 * z.tmod 1000000000 + g2 * y0) = g0 * r.tmod 1000000000 + g1 * z.tmod 1000000000 + g2 * y0 := IntWalk.i64_in _ (by omega)
  have v14 : IntKind.i64.wrap (g0 * r.tmod 1000000000 + g1 * z.tmod 1000000000 + g2 * y0 + g3 * y1) = g0 * r.tmod 1000000000 + g1 * z.tmod 1000000000 + g2 * y0 + g3 * y1 := IntWalk.i64_in _ (by omega)
  have v15 : IntKind.i64.wrap (-most) = -most := IntWalk.i64_in _ (by omega)
  have HL : -4000000000000000 ≤ g0 * r.tmod 1000000000 + g1 * z.tmod 1000000000 + g2 * y0 + g3 * y1 ∧ g0 * r.tmod 1000000000 + g1 * z.tmod 1000000000 + g2 * y0 + g3 * y1 ≤ 4000000000000000 := by omega
  have HC := cutL_big (T := T) m0 m1
  clear k3 k4 k5 k6 er ez xr xr2 xz xz2 hT
  by_cases q1 : 100000000 < g0 * r.tdiv 1000000000 + g1 * z.tdiv 1000000000
  · have e1 : decide (100000000 < g0 * r.tdiv 1000000000 + g1 * z.tdiv 1000000000) = true := decide_eq_true q1
    rw [HC.1 (by omega)]
    clear HT HC k1 k2 HL q1
    go_enter Try.func32, Try.ntmps32
    go_wp2_with fail
    go_ret
    exact ⟨rfl, by (with_reducible repeat first | exact Below.refl _ _ | assumption | ((first | refine Below.setCell ?_ ?_ _ | refine Below.alloc ?_ ?_ _); rotate_left; exact (by first | omega | (simp; done) | (simp; omega))) | refine Below.drew ?_ | refine Below_drewN ?_ _)⟩
  · have e1 : decide (100000000 < g0 * r.tdiv 1000000000 + g1 * z.tdiv 1000000000) = false := decide_eq_false q1
    by_cases q2 : g0 * r.tdiv 1000000000 + g1 * z.tdiv 1000000000 < -100000000
    · have e2 : decide (g0 * r.tdiv 1000000000 + g1 * z.tdiv 1000000000 < -100000000) = true := decide_eq_true q2
      rw [HC.2 (by omega)]
      clear HT HC k1 k2 HL q1 q2
      go_enter Try.func32, Try.ntmps32
      go_wp2_with fail
      go_ret
      exact ⟨rfl, by (with_reducible repeat first | exact Below.refl _ _ | assumption | ((first | refine Below.setCell ?_ ?_ _ | refine Below.alloc ?_ ?_ _); rotate_left; exact (by first | omega | (simp; done) | (simp; omega))) | refine Below.drew ?_ | refine Below_drewN ?_ _)⟩
    · have e2 : decide (g0 * r.tdiv 1000000000 + g1 * z.tdiv 1000000000 < -100000000) = false := decide_eq_false q2
      have v16 : IntKind.i64.wrap ((g0 * r.tdiv 1000000000 + g1 * z.tdiv 1000000000) * 1000000000) = (g0 * r.tdiv 1000000000 + g1 * z.tdiv 1000000000) * 1000000000 := IntWalk.i64_in _ (by omega)
      have v17 : IntKind.i64.wrap ((g0 * r.tdiv 1000000000 + g1 * z.tdiv 1000000000) * 1000000000 + (g0 * r.tmod 1000000000 + g1 * z.tmod 1000000000 + g2 * y0 + g3 * y1)) = T := by rw [← HT]; exact IntWalk.i64_in _ (by omega)
      have eT := Int.mul_tdiv_add_tmod T 1000
      have mT := tmod_in T
      have v18 : IntKind.i64.wrap (T.tdiv 1000) = T.tdiv 1000 := IntWalk.i64_in _ (by omega)
      have HU := Lib.hid (fun W => rcut_any (T.tdiv 1000) most W m0 (by omega))
      clear HT HC k1 k2 HL q1 q2 eT mT
      go_enter Try.func32, Try.ntmps32
      go_wp2_with fail
      refine (HU.out _).mono ?_
      rintro e w1 ⟨rfl, rfl⟩
      go_wp2_with fail
      go_ret
      exact ⟨rfl, by (with_reducible repeat first | exact Below.refl _ _ | assumption | ((first | refine Below.setCell ?_ ?_ _ | refine Below.alloc ?_ ?_ _); rotate_left; exact (by first | omega | (simp; done) | (simp; omega))) | refine Below.drew ?_ | refine Below_drewN ?_ _)⟩

end Go.Proofs.Ytcdhanfjcnfjjaa
end
