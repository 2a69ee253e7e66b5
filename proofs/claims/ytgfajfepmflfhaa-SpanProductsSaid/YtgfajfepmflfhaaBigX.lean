/- The specification's whole numbers of any length: the contract of Times, over this seat's translation. -/
import Derived.Test.YtgfajfepmflfhaaBigT
import Derived.Test.YtgfajfepmflfhaaBigQ
import Derived.RegionTactic
import Derived.StillTailTactics
import Derived.Deep.DeepCutAuto
import Derived.Deep.RegionLaw
namespace Go.Proofs.Ytgfajfepmflfhaa
set_option linter.unusedVariables false
set_option linter.unusedSimpArgs false
open Go.RowKit

/-- A block that is just these ints. -/
def RowI (w : World) (y : Nat) (O : List Int) : Prop := w.heap[y]? = some (.cells (O.map (Value.int .i64)).toArray 3 (0, 0))
theorem RowI.cell {w : World} {y : Nat} {O : List Int} (h : RowI w y O) {p : Nat} (hp : p < O.length) : w.cell? ⟨y, p, none⟩ = some (.int .i64 (O.getD p 0)) := by
  rw [cell_of_row w y p _ _ _ h]
  simp [hp, List.getD]
theorem RowI.frozen {w : World} {y : Nat} {O : List Int} (h : RowI w y O) (p : Nat) : w.frozen? ⟨y, p, none⟩ = false := by
  unfold RowI at h
  simp [World.frozen?, h]
theorem RowI.store {w : World} {y : Nat} {O : List Int} (h : RowI w y O) (p : Nat) (v : Int) : RowI (w.setCell ⟨y, p, none⟩ (.int .i64 v)) y (O.set p v) := by
  unfold RowI at h ⊢
  simp [World.setCell, Array.getElem?_modify, h, List.map_set]

theorem heap_new_at {w : World} {o : Obj} {k : Nat} (h : w.heap.size = k) : (w.alloc o).heap[k]? = some o := by subst h; exact heap_alloc_new w o

theorem RowI.lt {w : World} {y : Nat} {O : List Int} (h : RowI w y O) : y < w.heap.size := by
  unfold RowI at h
  rcases Nat.lt_or_ge y w.heap.size with h1 | h1
  · exact h1
  · rw [Array.getElem?_eq_none h1] at h
    cases h
theorem RowI.isI {w : World} {y base : Nat} {O : List Int} (h : RowI w y O) (hb : base ≤ y) : IsI w base (some ⟨y, 0, none⟩) O.length O :=
  ⟨rfl, fun _ => ⟨y, 0, rfl, hb, h.lt, fun j hj => by rw [Nat.zero_add]; exact h.cell hj⟩⟩

/-- What stays while Times reckons: its arguments, the number that it makes (its digits lie in block y), the result's place. -/
structure TW (w wr : World) (x y : Nat) (s0 s1 sx : Value) (bx : Bool) : Prop where
  c0 : wr.cell? ⟨w.heap.size, 1, none⟩ = some s0
  c1 : wr.cell? ⟨w.heap.size + 1, 1, none⟩ = some s1
  cx : wr.cell? ⟨x, 0, none⟩ = some (.bool bx)
  cx1 : wr.cell? ⟨x, 1, none⟩ = some sx
  hx : w.heap.size + 2 < x
  hy : w.heap.size + 2 < y
  hxy : x ≠ y
  lx : x < wr.heap.size
  ly : y < wr.heap.size
  r0 : (wr.cell? ⟨w.heap.size + 1 + 1, 0, none⟩).isSome = true
  f0 : wr.frozen? ⟨w.heap.size + 1 + 1, 0, none⟩ = false
  r1 : (wr.cell? ⟨w.heap.size + 1 + 1, 1, none⟩).isSome = true
  f1 : wr.frozen? ⟨w.heap.size + 1 + 1, 1, none⟩ = false
  hB : Below w.heap.size w wr
theorem TW.drew {w wr : World} {x y : Nat} {s0 s1 sx : Value} {bx : Bool} (h : TW w wr x y s0 s1 sx bx) : TW w wr.drew x y s0 s1 sx bx :=
  ⟨h.c0, h.c1, h.cx, h.cx1, h.hx, h.hy, h.hxy, h.lx, h.ly, h.r0, h.f0, h.r1, h.f1, h.hB.drew⟩
theorem TW.store {w wr : World} {x y : Nat} {s0 s1 sx : Value} {bx : Bool} (h : TW w wr x y s0 s1 sx bx) (p : Nat) (v : Value) : TW w (wr.setCell ⟨y, p, none⟩ v) x y s0 s1 sx bx := by
  have hy := h.hy
  have ne : ∀ b o : Nat, b ≠ y → (⟨y, p, none⟩ : Addr) ≠ ⟨b, o, none⟩ := fun b o hb e => hb (by injection e with e; exact e.symm)
  refine ⟨?_, ?_, ?_, ?_, h.hx, hy, h.hxy, by rw [World.size_setCell]; exact h.lx, by rw [World.size_setCell]; exact h.ly, by rw [isSome_setCell]; exact h.r0, by rw [World.frozen?_setCell]; exact h.f0, by rw [isSome_setCell]; exact h.r1, by rw [World.frozen?_setCell]; exact h.f1, h.hB.setCell (by simp; omega) _⟩
  · rw [World.cell?_setCell_other _ _ _ _ (ne _ _ (by omega))]; exact h.c0
  · rw [World.cell?_setCell_other _ _ _ _ (ne _ _ (by omega))]; exact h.c1
  · rw [World.cell?_setCell_other _ _ _ _ (ne _ _ h.hxy)]; exact h.cx
  · rw [World.cell?_setCell_other _ _ _ _ (ne _ _ h.hxy)]; exact h.cx1

set_option maxHeartbeats 8000000 in
set_option maxRecDepth 100000 in
theorem times_any (na nb : Bool) (A B : Option Addr) (n m ca cb : Nat) (P Q : List Int) (w : World) (hI : IsI w 0 A n P) (hJ : IsI w 0 B m Q) (hn : n ≤ 16) (hm : m ≤ 16) (hP : Digs P) (hQ : Digs Q) :
    Calls Try.prog 20 #[.agg #[.bool na, .slice A n ca], .agg #[.bool nb, .slice B m cb]] w (fun e w' => ∃ O, val O = val P * val Q ∧ Digs O ∧ O.length ≤ 33 ∧ Trimmed w.heap.size (na != nb) (n + m + 1) O w e w') := by
  have HI := Lib.hid hI
  have HJ := Lib.hid hJ
  have HP := Lib.hid hP
  have HQ := Lib.hid hQ
  have LP := Lib.hid hI.1
  have LQ := Lib.hid hJ.1
  clear hI hJ hP hQ
  go_enter Try.func20, Try.ntmps20
  go_upto_region 1 with fail
  go_cut [5] (fun s5 wx => ∃ x y : Nat, s5 = .pointer (some ⟨x, 0, none⟩) ∧ TW w wx x y (.slice A n ca) (.slice B m cb) (.slice (some ⟨y, 0, none⟩) (n + m + 1) (n + m + 1)) (na != nb) ∧ RowI wx y (List.replicate (n + m + 1) 0))
  case first =>
    have hI0 : (Try.prog.info? 3).map (fun i => (i.zero, i.size, i.bytes)) = some (some (.int .i64 0), 1, 8) := by kernel_rfl
    obtain ⟨i0, hi, hz0, hz1, hz2⟩ := info_parts hI0
    obtain ⟨Z, hmk, hZ⟩ : ∃ Z : Array Value, (∀ W : World, (Instr.makeSlice 39 (.int .i64 ((n : Int) + m + 1)) (.int .i64 ((n : Int) + m + 1))).run Try.prog W = .ok (.slice (some ⟨W.heap.size, 0, none⟩) (n + m + 1) (n + m + 1)) (W.alloc (.cells Z 3))) ∧ Z = ((List.replicate (n + m + 1) 0).map (Value.int .i64)).toArray := by
      refine ⟨_, fun W => ?_, rfl⟩
      have := run_make W 39 3 i0 (.int .i64 0) Try.underlying39 hi hz0 .i64 .i64 ((n : Int) + m + 1) ((n : Int) + m + 1) (by omega) (Int.le_refl _) (by rw [hz2]; omega) (by omega)
      rw [this, hz1, show ((n : Int) + m + 1).toNat = n + m + 1 by omega]
      have e : madeCells (Value.int .i64 0).cells ((n + m + 1) * 1) = ((List.replicate (n + m + 1) 0).map (Value.int .i64)).toArray := by
        apply Array.ext
        · simp [madeCells]
        · intro j h1 h2
          simp [madeCells, Value.cells, Nat.mod_one]
      rw [e]
    clear hi hz0 hz1 hz2 hI0
    have HZ := Lib.hid hZ
    clear hZ
    have W0 : IntKind.i64.wrap ((n : Int) + m) = n + m := IntWalk.i64_in _ (by omega)
    have W1 : IntKind.i64.wrap ((n : Int) + m + 1) = n + m + 1 := IntWalk.i64_in _ (by omega)
    go_region
    all_goals go_wp2_with fail
    all_goals go_meet
    · refine ⟨w.heap.size + 1 + 1 + 1 + 1, w.heap.size + 1 + 1 + 1, rfl, ⟨(by go_simp), (by go_simp), (by go_simp; cases na <;> cases nb <;> rfl), (by go_simp), (by omega), (by omega), (by omega), (by simp), (by simp), (by go_simp), (by go_simp), (by go_simp), (by go_simp), (by (repeat first | with_reducible exact Below.refl _ _ | with_reducible assumption | (with_reducible refine Below.setCell ?_ ?_ _; rotate_left; exact (by first | omega | (simp; done) | (simp; omega))) | (with_reducible refine Below.alloc ?_ ?_ _; rotate_left; exact (by first | omega | (simp; done) | (simp; omega))) | with_reducible refine Below.drew ?_ | with_reducible refine Below_drewN ?_ _))⟩, ?_⟩
      unfold RowI
      rw [← HZ.out]
      exact (Below.heap_alloc _ _ _ (by simp)).trans (heap_new_at (by simp))
    · refine ⟨w.heap.size + 1 + 1 + 1, w.heap.size + 1 + 1 + 1 + 1, rfl, ⟨(by go_simp), (by go_simp), (by go_simp; cases na <;> cases nb <;> rfl), (by go_simp), (by omega), (by omega), (by omega), (by simp), (by simp), (by go_simp), (by go_simp), (by go_simp), (by go_simp), (by (repeat first | with_reducible exact Below.refl _ _ | with_reducible assumption | (with_reducible refine Below.setCell ?_ ?_ _; rotate_left; exact (by first | omega | (simp; done) | (simp; omega))) | (with_reducible refine Below.alloc ?_ ?_ _; rotate_left; exact (by first | omega | (simp; done) | (simp; omega))) | with_reducible refine Below.drew ?_ | with_reducible refine Below_drewN ?_ _))⟩, ?_⟩
      unfold RowI
      rw [← HZ.out]
      exact heap_new_at (by simp)
  case rest =>
    obtain ⟨x, y, rfl, ht, hrow⟩ := hcut
    have HR := Lib.hid (show RowI wc y (List.replicate (n + m + 1) 0) ∧ Conv P Q (List.replicate (n + m + 1) 0) 0 0 from ⟨hrow, by have := conv_start P Q; rwa [LP.out, LQ.out] at this⟩)
    have HT := Lib.hid ht
    clear ht hrow
    go_wp2_with fail
    go_loopw [6, 7] (fun i _ wr => ∃ (j : Nat) (O : List Int), j ≤ n ∧ i = .int .i64 j ∧ TW w wr x y (.slice A n ca) (.slice B m cb) (.slice (some ⟨y, 0, none⟩) (n + m + 1) (n + m + 1)) (na != nb) ∧ RowI wr y O ∧ Conv P Q O j 0) (fun i _ _ => n - (intOf i).toNat)
    case atStart => exact ⟨0, _, Nat.zero_le _, rfl, HT.out, HR.out.1, HR.out.2⟩
    case round =>
      obtain ⟨j, O, hj, rfl, ht, hrow, hcv⟩ := hrel
      have t0 := ht.c0
      have t1 := ht.c1
      have t2 := ht.cx1
      by_cases hlt : j < n
      · have HT1 := Lib.hid ht
        have HR1 := Lib.hid (And.intro hrow hcv)
        clear ht hrow hcv
        obtain ⟨wo, rfl⟩ : ∃ wo : World, wo = wr := ⟨_, rfl⟩
        go_wp2_with fail
        go_loopw [7] (fun k wr => ∃ (l : Nat) (O : List Int), l ≤ m ∧ k = .int .i64 l ∧ TW w wr x y (.slice A n ca) (.slice B m cb) (.slice (some ⟨y, 0, none⟩) (n + m + 1) (n + m + 1)) (na != nb) ∧ RowI wr y O ∧ Conv P Q O j l) (fun k _ => m - (intOf k).toNat)
        case atStart => exact ⟨0, _, Nat.zero_le _, rfl, HT1.out, HR1.out.1, HR1.out.2⟩
        case round =>
          obtain ⟨l, O, hl, rfl, ht, hrow, hcv⟩ := hrel
          have t0 := ht.c0
          have t1 := ht.c1
          have t2 := ht.cx1
          by_cases hlt2 : l < m
          · obtain ⟨a, ao, rfl, _, ha, hcP⟩ := HI.out.2 (by omega)
            obtain ⟨b, bo, rfl, _, hb, hcQ⟩ := HJ.out.2 (by omega)
            have p0 := (ht.hB.cell (p := ⟨a, ao + j, none⟩) ha).trans (hcP j hlt)
            have q0 := (ht.hB.cell (p := ⟨b, bo + l, none⟩) hb).trans (hcQ l hlt2)
            have hlO : O.length = n + m + 1 := by rw [hcv.1, LP.out, LQ.out]
            have o0 := hrow.cell (p := j + l) (by omega)
            have of0 := hrow.frozen (j + l)
            have ly := ht.ly
            have cs := conv_step HP.out HQ.out (by rw [LP.out]; exact hlt) (by rw [LQ.out]; exact hlt2) hcv
            have bo' := conv_bound (by omega) (by omega) hcv (j + l)
            have bp := digs_getD HP.out j
            have bq := digs_getD HQ.out l
            have bm := dig_mul bp.1 bp.2 bq.1 bq.2
            clear hcP hcQ hcv
            generalize P.getD j 0 = dp at *
            generalize Q.getD l 0 = dq at *
            generalize O.getD (j + l) 0 = d0 at *
            have HCS := Lib.hid cs
            have HT3 := Lib.hid ht
            have HR3 := Lib.hid hrow
            have HLO := Lib.hid hlO
            clear cs ht hrow hlO
            obtain ⟨bo1, bo2⟩ := bo'
            obtain ⟨bm1, bm2⟩ := bm
            have j0 : (0 : Int) ≤ j := by omega
            have j1 : (j : Int) < n := by omega
            have l0 : (0 : Int) ≤ l := by omega
            have l1 : (l : Int) < m := by omega
            go_wp2_with fail
            have X0 : IntKind.i64.wrap ((j : Int) + l) = j + l := IntWalk.i64_in _ (by omega)
            have X1 : IntKind.i64.wrap (dp * dq) = dp * dq := IntWalk.i64_in _ (by omega)
            have X2 : IntKind.i64.wrap (d0 + dp * dq) = d0 + dp * dq := IntWalk.i64_in _ (by omega)
            have X3 : ((j : Int) + l).toNat = j + l := by omega
            have X4 : (0 : Int) ≤ (j : Int) + l := by omega
            have X5 : (j : Int) + l < n + m + 1 := by omega
            go_still_tail 25, (by kernel_rfl)
            change wpList _ _ _ _ _ wr.drew
            go_wp2
            go_roundw
            case rel => exact ⟨l + 1, _, by omega, by go_num, (HT3.out.drew).store _ _, RowI.store (w := wr.drew) HR3.out _ _, HCS.out⟩
            case measure => simp [intOf]; omega
          · have hlm : l = m := by omega
            subst hlm
            have HCV := Lib.hid (conv_row (by rw [LP.out]; exact hlt) (by rw [LQ.out]; exact hm) (by rw [LQ.out]; exact hcv))
            have HT2 := Lib.hid ht
            have HR2 := Lib.hid hrow
            clear ht hrow hcv
            go_wp2
            go_roundw
            case rel => exact ⟨j + 1, O, by omega, by go_num, HT2.out, HR2.out, HCV.out⟩
            case measure => simp [intOf]; omega
      · have hjn : j = n := by omega
        subst hjn
        have HC := Lib.hid (car_start (by rw [LP.out]; exact hn) (by rw [LQ.out]; exact hm) (by rw [LP.out]; exact hcv))
        have HT4 := Lib.hid ht
        have HR4 := Lib.hid hrow
        clear ht hrow hcv
        obtain ⟨wo, rfl⟩ : ∃ wo : World, wo = wr := ⟨_, rfl⟩
        go_wp2_with fail
        go_loopw [8] (fun i wr => ∃ (c : Nat) (O : List Int), c < j + m + 1 ∧ i = .int .i64 c ∧ TW w wr x y (.slice A j ca) (.slice B m cb) (.slice (some ⟨y, 0, none⟩) (j + m + 1) (j + m + 1)) (na != nb) ∧ RowI wr y O ∧ Car (val P * val Q) (j + m + 1) O c) (fun i _ => j + m + 1 - (intOf i).toNat)
        case atStart => exact ⟨0, _, by omega, rfl, HT4.out, HR4.out, (by have := HC.out; rwa [LP.out, LQ.out] at this)⟩
        case round =>
          obtain ⟨c, O, hc, rfl, ht, hrow, hcr⟩ := hrel
          have t2 := ht.cx1
          by_cases hlt3 : c + 1 < j + m + 1
          · have hlO : O.length = j + m + 1 := hcr.1
            have o0 := hrow.cell (p := c) (by omega)
            have o1 := hrow.cell (p := c + 1) (by omega)
            have of0 := hrow.frozen c
            have of1 := hrow.frozen (c + 1)
            have ly := ht.ly
            have hxy := ht.hxy
            have cs := car_step hlt3 hcr
            obtain ⟨b1, b2⟩ := hcr.2.2.2 c
            obtain ⟨b3, b4⟩ := hcr.2.2.2 (c + 1)
            clear hcr
            generalize hd0 : O.getD c 0 = d0 at *
            have HD0 := Lib.hid hd0
            clear hd0
            generalize O.getD (c + 1) 0 = d1 at *
            have b2' : d0 ≤ 60000000000 := by omega
            have b4' : d1 ≤ 60000000000 := by omega
            have b5 : 0 ≤ d0 / 10000 := Int.ediv_nonneg b1 (by decide)
            have b6 : d0 / 10000 ≤ 60000000000 := by omega
            have hl : Hid (O.length = j + m + 1) := Lib.hid hlO
            have HCS := Lib.hid cs
            have HT5 := Lib.hid ht
            have HR5 := Lib.hid hrow
            clear cs ht hrow b2 b4 hlO
            have c0 : (0 : Int) ≤ c := by omega
            have c1 : (c : Int) + 1 < j + m + 1 := by omega
            have c2 : (c : Int) < j + m + 1 := by omega
            go_wp2_with fail
            have X0 : IntKind.i64.wrap ((c : Int) + 1) = c + 1 := IntWalk.i64_in _ (by omega)
            have X2 : IntKind.i64.wrap (d1 + d0 / 10000) = d1 + d0 / 10000 := IntWalk.i64_in _ (by omega)
            have X3 : ((c : Int) + 1).toNat = c + 1 := by omega
            have X4 : (0 : Int) ≤ (c : Int) + 1 := by omega
            have X5 : d0.tdiv 10000 = d0 / 10000 := Int.tdiv_eq_ediv_of_nonneg b1
            have X6 : IntKind.i64.wrap (d0 / 10000) = d0 / 10000 := IntWalk.i64_in _ (by omega)
            have X7 : d0.tmod 10000 = d0 % 10000 := Int.tmod_eq_emod_of_nonneg b1
            go_still_tail 18, (by kernel_rfl)
            change wpList _ _ _ _ _ wr.drew
            go_wp2_with fail
            have HT6 := Lib.hid ((HT5.out.store (c + 1) (.int .i64 (d1 + d0 / 10000))).drew)
            have HR6 := Lib.hid (show RowI (wr.setCell ⟨y, c + 1, none⟩ (.int .i64 (d1 + d0 / 10000))).drew y (O.set (c + 1) (d1 + d0 / 10000)) from RowI.store HR5.out _ _)
            clear o0 o1 of0 of1 t2 HT5 HR5
            generalize (wr.setCell ⟨y, c + 1, none⟩ (.int .i64 (d1 + d0 / 10000))).drew = w5 at *
            have t2 := HT6.out.cx1
            have ly := HT6.out.ly
            have o0 : w5.cell? ⟨y, c, none⟩ = some (.int .i64 d0) := by
              have h := HR6.out.cell (p := c) (by rw [List.length_set, hl.out]; omega)
              rwa [getD_set _ _ _ _ (by rw [hl.out]; omega), if_neg (by omega), HD0.out] at h
            have of0 := HR6.out.frozen c
            go_still_tail 10, (by kernel_rfl)
            change wpList _ _ _ _ _ w5.drew
            go_wp2
            go_roundw
            case rel => exact ⟨c + 1, _, hlt3, by go_num, HT6.out.drew.store _ _, RowI.store (w := w5.drew) HR6.out _ _, HCS.out⟩
            case measure => simp [intOf]; omega
          · have hcm : c = j + m := by omega
            subst hcm
            have hend := car_end HP.out HQ.out (by rw [LP.out, LQ.out]; exact hcr)
            have HE := Lib.hid hend
            have HLO := Lib.hid hcr.1
            have HRI := Lib.hid (hrow.isI (base := w.heap.size + 1 + 1 + 1) (by have := ht.hy; omega))
            have t3 := ht.cx
            have r0 := ht.r0
            have f0 := ht.f0
            have r1 := ht.r1
            have f1 := ht.f1
            have hB := ht.hB
            have hsz := hB.size
            have hx := ht.hx
            have lx := ht.lx
            clear ht hrow hcr hend
            go_wp2_with fail
            refine (trim_any (w.heap.size + 1 + 1 + 1) (na != nb) _ (j + m + 1) (j + m + 1) O _ (by have := HRI.out; rwa [HLO.out] at this) (Nat.le_refl _) (by omega) HE.out.1).mono ?_
            rintro e w1 ⟨A', k', cap', rfl, hI', q1, q2, q3, q4, hb⟩
            have HI' := Lib.hid hI'
            have H3 := Lib.hid q3
            have H4 := Lib.hid q4
            have g0 := (congrArg Option.isSome (hb.cell (p := ⟨w.heap.size + 1 + 1, 0, none⟩) (by simp; omega))).trans r0
            have g1 := (congrArg Option.isSome (hb.cell (p := ⟨w.heap.size + 1 + 1, 1, none⟩) (by simp; omega))).trans r1
            have g2 := (hb.frozen (p := ⟨w.heap.size + 1 + 1, 0, none⟩) (by simp; omega)).trans f0
            have g3 := (hb.frozen (p := ⟨w.heap.size + 1 + 1, 1, none⟩) (by simp; omega)).trans f1
            have hB1 : Below w.heap.size w w1 := hB.trans (hb.mono hsz)
            obtain ⟨z0, g0⟩ := Option.isSome_iff_exists.1 g0
            obtain ⟨z1, g1⟩ := Option.isSome_iff_exists.1 g1
            clear hI' q3 q4 hb r0 r1
            go_wp2
            exact bodyPost_ret (res2b Try.results20 _ _ _ _ _ rfl (by (try simp only [isSome_setCell]); first | assumption | go_simp) (by (try simp only [isSome_setCell]); first | assumption | go_simp)) rfl ⟨O, HE.out.2, HE.out.1, by rw [HLO.out]; omega, A', k', cap', rfl, ((HI'.out.setCell (by simp) _).setCell (by simp) _).mono (by omega), q1, q2, H3.out, H4.out, by (repeat first | with_reducible exact Below.refl _ _ | with_reducible assumption | (with_reducible refine Below.setCell ?_ ?_ _; rotate_left; exact (by first | omega | (simp; done) | (simp; omega))) | (with_reducible refine Below.alloc ?_ ?_ _; rotate_left; exact (by first | omega | (simp; done) | (simp; omega))) | with_reducible refine Below.drew ?_ | with_reducible refine Below_drewN ?_ _)⟩

end Go.Proofs.Ytgfajfepmflfhaa
