/- The specification's whole numbers of any length: the contract of over, over this seat's translation. -/
import Derived.Test.YtgfajfepmflfhaaBigC
import Derived.Test.YtgfajfepmflfhaaBigW
namespace Go.Proofs.Ytgfajfepmflfhaa
set_option linter.unusedVariables false
set_option linter.unusedSimpArgs false
open Go.RowKit

/-- f of each pair. -/
def prs (f : Int → Int → Int) (la lb : List Int) : List Int := la.flatMap (fun x => lb.map (f x))
theorem prs_len (f : Int → Int → Int) (la lb : List Int) : (prs f la lb).length = la.length * lb.length := by
  induction la with
  | nil => simp [prs]
  | cons x r ih =>
    have e : prs f (x :: r) lb = lb.map (f x) ++ prs f r lb := rfl
    rw [e, List.length_append, List.length_map, ih, List.length_cons, Nat.succ_mul, Nat.add_comm]
theorem prs_snoc (f : Int → Int → Int) (la lb : List Int) (x : Int) : prs f (la ++ [x]) lb = prs f la lb ++ lb.map (f x) := by
  simp [prs, List.flatMap_append]
theorem flo_absV (x d : Int) (hd : d ≠ 0) : max (flo x d) (-(flo x d)) ≤ max x (-x) := by
  have key : ∀ x m : Int, 1 ≤ m → -(max x (-x)) ≤ x / m ∧ x / m ≤ max x (-x) := by
    intro x m hm
    constructor
    · rw [Int.le_ediv_iff_mul_le (by omega), Int.neg_mul]
      have := Int.mul_le_mul_of_nonneg_left hm (show 0 ≤ max x (-x) by omega)
      omega
    · by_cases h0 : 0 ≤ x
      · have := Int.ediv_le_self m h0
        omega
      · have := Int.ediv_neg_of_neg_of_pos (show x < 0 by omega) (show 0 < m by omega)
        omega
  unfold flo
  by_cases h : 0 < d
  · rw [if_pos h]
    have := key x d (by omega)
    omega
  · rw [if_neg h]
    have := key (-x) (-d) (by omega)
    omega
theorem cei_absV (x d : Int) (hd : d ≠ 0) : max (cei x d) (-(cei x d)) ≤ max x (-x) := by
  have := flo_absV (-x) d hd
  unfold cei
  omega
theorem prs_bound {f : Int → Int → Int} {la lb : List Int} (hf : ∀ x d, d ≠ 0 → max (f x d) (-(f x d)) ≤ max x (-x)) (ha : ∀ z ∈ la, max z (-z) < pw 10) (hb : ∀ z ∈ lb, max z (-z) < pw 8 ∧ z ≠ 0) : ∀ z ∈ prs f la lb, max z (-z) < pw 32 := by
  intro z hz
  obtain ⟨x, hx, hz⟩ := List.mem_flatMap.1 hz
  obtain ⟨y, hy, rfl⟩ := List.mem_map.1 hz
  have h1 := hf x y (hb y hy).2
  have h2 := ha x hx
  have h3 := pw_mono (show 10 ≤ 32 by decide)
  omega
theorem Bigs.below {w w1 : World} {b o : Nat} {zs : List Int} (h : Bigs w b o zs) (hb : b < w.heap.size) (hB : Below w.heap.size w w1) : Bigs w1 b o zs := fun j hj => by
  obtain ⟨x, y, h1, h2, h3⟩ := h j hj
  exact ⟨x, y, (hB.cell (p := ⟨b, _, none⟩) hb).trans h1, (hB.cell (p := ⟨b, _, none⟩) hb).trans h2, h3.below hB⟩
theorem mem_getD {l : List Int} {j : Nat} (h : j < l.length) : l.getD j 0 ∈ l := by
  rw [List.getD_eq_getElem?_getD, List.getElem?_eq_getElem h]
  exact List.getElem_mem _

set_option maxHeartbeats 8000000 in
set_option maxRecDepth 100000 in
theorem over_any (p na ca q nb cb : Nat) (la lb : List Int) (w : World) (hla : la.length = na) (hlb : lb.length = nb) (na1 : 1 ≤ na) (na2 : na ≤ 2) (nb1 : 1 ≤ nb) (nb2 : nb ≤ 2) (hp : p < w.heap.size) (hq : q < w.heap.size) (ha : Bigs w p 0 la) (hb : Bigs w q 0 lb)
    (ba : ∀ z ∈ la, max z (-z) < pw 10) (bb : ∀ z ∈ lb, max z (-z) < pw 8 ∧ z ≠ 0) :
    Calls Try.prog 27 #[.slice (some ⟨p, 0, none⟩) na ca, .slice (some ⟨q, 0, none⟩) nb cb] w (Ret (.tuple #[.agg #[.int .i64 (resL (minZ (prs flo la lb)) (maxZ (prs cei la lb))).1, .int .i64 (resL (minZ (prs flo la lb)) (maxZ (prs cei la lb))).2.1], .int .i64 (resL (minZ (prs flo la lb)) (maxZ (prs cei la lb))).2.2]) w) := by
  have HLA := Lib.hid hla
  have HLB := Lib.hid hlb
  have HA := Lib.hid ha
  have HBB := Lib.hid hb
  have BA := Lib.hid ba
  have BB := Lib.hid bb
  clear hla hlb ha hb ba bb
  obtain ⟨W1, hW⟩ : ∃ W1, W1 = w.alloc (.cells #[.int .i64 0, .int .i64 0] 23) := ⟨_, rfl⟩
  have r0 : W1.cell? ⟨w.heap.size, 0, none⟩ = some (.int .i64 0) := by rw [hW]; go_simp
  have r1 : W1.cell? ⟨w.heap.size, 1, none⟩ = some (.int .i64 0) := by rw [hW]; go_simp
  have f0 : W1.frozen? ⟨w.heap.size, 0, none⟩ = false := by rw [hW]; go_simp
  have f1 : W1.frozen? ⟨w.heap.size, 1, none⟩ = false := by rw [hW]; go_simp
  have hB0 : Below w.heap.size w W1 := by rw [hW]; (repeat first | with_reducible exact Below.refl _ _ | with_reducible assumption | (with_reducible refine Below.setCell ?_ ?_ _; rotate_left; exact (by first | omega | (simp; done) | (simp; omega))) | (with_reducible refine Below.alloc ?_ ?_ _; rotate_left; exact (by first | omega | (simp; done) | (simp; omega))) | with_reducible refine Below.drew ?_ | with_reducible refine Below_drewN ?_ _)
  have hz0 : w.heap.size < W1.heap.size := by rw [hW]; simp
  have HW := Lib.hid hW
  go_enter Try.func27, Try.ntmps27
  go_wp2_with fail
  rw [← HW.out]
  clear hW
  go_loopw [6, 7, 8, 9] (fun dv uv i _ wr => ∃ j : Nat, j ≤ na ∧ i = .int .i64 j ∧ OW W1 wr dv uv (prs flo (la.take j) lb) (prs cei (la.take j) lb)) (fun _ _ i _ _ => na - (intOf i).toNat)
  case atStart => exact ⟨0, Nat.zero_le _, rfl, OW.start W1⟩
  case round =>
    obtain ⟨j, hj, rfl, hO⟩ := hrel
    obtain ⟨w4, rfl⟩ : ∃ w4 : World, w4 = wr := ⟨_, rfl⟩
    have HO := Lib.hid hO
    clear hO
    by_cases hlt : j < na
    · have j0 : (0 : Int) ≤ j := by omega
      have j1 : (j : Int) < na := by omega
      obtain ⟨xa, ya, c0, c1, hx⟩ := HA.out j (by rw [HLA.out]; exact hlt)
      obtain ⟨nx, Ax, kx, cx, rfl, rfl⟩ := hx.form
      rw [Nat.zero_add] at c0 c1
      have hpx := BA.out (la.getD j 0) (mem_getD (by rw [HLA.out]; exact hlt))
      have htx := take_snocZ la j (by rw [HLA.out]; exact hlt)
      have HSD := Lib.hid (show prs flo (la.take (j + 1)) lb = prs flo (la.take j) lb ++ lb.map (flo (la.getD j 0)) by rw [htx, prs_snoc])
      have HSU := Lib.hid (show prs cei (la.take (j + 1)) lb = prs cei (la.take j) lb ++ lb.map (cei (la.getD j 0)) by rw [htx, prs_snoc])
      have hld : (prs flo (la.take j) lb).length ≤ 2 * j ∧ (prs cei (la.take j) lb).length ≤ 2 * j := by
        rw [prs_len, prs_len, HLB.out, List.length_take, HLA.out, Nat.min_eq_left hj]
        have := Nat.mul_le_mul_left j nb2
        omega
      have HX := Lib.hid (fun W (h : Below w.heap.size w W) => hx.below h)
      have HPX := Lib.hid hpx
      clear hx hpx htx
      generalize la.getD j 0 = x at *
      generalize prs flo (la.take j) lb = D0 at *
      generalize prs cei (la.take j) lb = U0 at *
      obtain ⟨hl1, hl2⟩ := hld
      go_wp2_with fail
      go_loopw [6, 7, 9] (fun dv uv i wr => ∃ k : Nat, k ≤ nb ∧ i = .int .i64 k ∧ OW W1 wr dv uv (D0 ++ (lb.take k).map (flo x)) (U0 ++ (lb.take k).map (cei x))) (fun _ _ i _ => nb - (intOf i).toNat)
      case atStart => exact ⟨0, Nat.zero_le _, rfl, by rw [List.take_zero, List.map_nil, List.map_nil, List.append_nil, List.append_nil]; exact HO.out⟩
      case round =>
        obtain ⟨k, hk, rfl, hO1⟩ := hrel
        obtain ⟨w5, rfl⟩ : ∃ w5 : World, w5 = wr := ⟨_, rfl⟩
        by_cases hlk : k < nb
        · have k0 : (0 : Int) ≤ k := by omega
          have k1 : (k : Int) < nb := by omega
          obtain ⟨xb, yb, d0, d1, hy⟩ := HBB.out k (by rw [HLB.out]; exact hlk)
          obtain ⟨ny, Ay, ky, cy, rfl, rfl⟩ := hy.form
          rw [Nat.zero_add] at d0 d1
          obtain ⟨hpy, hy0⟩ := BB.out (lb.getD k 0) (mem_getD (by rw [HLB.out]; exact hlk))
          have hty := take_snocZ lb k (by rw [HLB.out]; exact hlk)
          have HTD := Lib.hid (show D0 ++ (lb.take (k + 1)).map (flo x) = (D0 ++ (lb.take k).map (flo x)) ++ [flo x (lb.getD k 0)] by rw [hty, List.map_append, List.append_assoc]; rfl)
          have HTU := Lib.hid (show U0 ++ (lb.take (k + 1)).map (cei x) = (U0 ++ (lb.take k).map (cei x)) ++ [cei x (lb.getD k 0)] by rw [hty, List.map_append, List.append_assoc]; rfl)
          have hle : (D0 ++ (lb.take k).map (flo x)).length ≤ 8 ∧ (U0 ++ (lb.take k).map (cei x)).length ≤ 8 := by
            rw [List.length_append, List.length_append, List.length_map, List.length_map, List.length_take]
            omega
          have HY := Lib.hid (fun W (h : Below w.heap.size w W) => hy.below h)
          have HPY := Lib.hid hpy
          have HY0 := Lib.hid hy0
          have hBw : Below w.heap.size w w5 := hB0.trans (hO1.hB.mono hB0.size)
          have hz5 := hO1.hB.size
          have e0 := (hBw.cell (p := ⟨p, j * 2, none⟩) hp).trans c0
          have e1 := (hBw.cell (p := ⟨p, j * 2 + 1, none⟩) hp).trans c1
          have e2 := (hBw.cell (p := ⟨q, k * 2, none⟩) hq).trans d0
          have e3 := (hBw.cell (p := ⟨q, k * 2 + 1, none⟩) hq).trans d1
          have HO1 := Lib.hid hO1
          clear hy hpy hy0 hty hO1
          generalize lb.getD k 0 = y at *
          generalize D0 ++ (lb.take k).map (flo x) = D at *
          generalize U0 ++ (lb.take k).map (cei x) = U at *
          obtain ⟨hle1, hle2⟩ := hle
          go_wp2_with fail
          go_cut [6] (fun s6 wx => OW W1 wx s6 u7 (D ++ [flo x y]) U)
          case first =>
            go_region_law (first | (refine over_stepD _ rfl (.tmp 26) (.tmp 36) rfl _ _ D U (O6.out.call ((Below.refl _ _).alloc (Nat.le_refl _) _)) (by first | rfl | simp [Act.eval, Act.put]) w6.heap.size n6 A6 k6 c6 (flo x y) (by first | rfl | simp [Act.eval, Act.put]) (heap_alloc_new _ _) (X6.out.grown (World.grownBy_alloc _ _ none) (.inr rfl) (fun b hb => .inl hb)) hle1 ?_; intro g cap w7 hO7 hz7; have O7 := Lib.hid hO7; clear hO7) | (go_simp; go_at_call 45; refine (floor_big x y _ _ _ (HX.out _ (by (repeat first | with_reducible exact Below.refl _ _ | with_reducible assumption | (with_reducible refine Below.setCell ?_ ?_ _; rotate_left; exact (by first | omega | (simp; done) | (simp; omega))) | (with_reducible refine Below.alloc ?_ ?_ _; rotate_left; exact (by first | omega | (simp; done) | (simp; omega))) | with_reducible refine Below.drew ?_ | with_reducible refine Below_drewN ?_ _))) (HY.out _ (by (repeat first | with_reducible exact Below.refl _ _ | with_reducible assumption | (with_reducible refine Below.setCell ?_ ?_ _; rotate_left; exact (by first | omega | (simp; done) | (simp; omega))) | (with_reducible refine Below.alloc ?_ ?_ _; rotate_left; exact (by first | omega | (simp; done) | (simp; omega))) | with_reducible refine Below.drew ?_ | with_reducible refine Below_drewN ?_ _))) HPX.out HPY.out HY0.out).mono ?_; rintro e w6 ⟨u6, rfl, V6, hb⟩; obtain ⟨n6, A6, k6, c6, rfl, V6⟩ := V6.open'; have hq6 : Below w5.heap.size w5 w6 := ⟨hb.os, hb.tape, hb.output, hb.size, hb.block⟩; have O6 := Lib.hid (HO1.out.call hq6); have X6 := Lib.hid (V6.apart HO1.out.rows); clear hb V6))
            all_goals go_wp2_with fail
            all_goals go_meet
            all_goals exact O7.out
          case rest =>
            obtain ⟨w8, rfl⟩ : ∃ w8 : World, w8 = wc := ⟨_, rfl⟩
            have HO8 := Lib.hid hcut.swap
            have hBw8 : Below w.heap.size w w8 := hB0.trans (hcut.hB.mono hB0.size)
            have hz8 := hcut.hB.size
            have e0 := (hBw8.cell (p := ⟨p, j * 2, none⟩) hp).trans c0
            have e1 := (hBw8.cell (p := ⟨p, j * 2 + 1, none⟩) hp).trans c1
            have e2 := (hBw8.cell (p := ⟨q, k * 2, none⟩) hq).trans d0
            have e3 := (hBw8.cell (p := ⟨q, k * 2 + 1, none⟩) hq).trans d1
            clear hcut
            go_wp2_with fail
            go_region_law (first | (refine over_stepD _ rfl (.tmp 38) (.tmp 48) rfl _ _ U (D ++ [flo x y]) (O6.out.call ((Below.refl _ _).alloc (Nat.le_refl _) _)) (by first | rfl | simp [Act.eval, Act.put]) w6.heap.size n6 A6 k6 c6 (cei x y) (by first | rfl | simp [Act.eval, Act.put]) (heap_alloc_new _ _) (X6.out.grown (World.grownBy_alloc _ _ none) (.inr rfl) (fun b hb => .inl hb)) hle2 ?_; intro g cap w7 hO7 hz7; have O7 := Lib.hid hO7; clear hO7) | (go_simp; go_at_call 46; refine (ceil_big x y _ _ _ (HX.out _ (by (repeat first | with_reducible exact Below.refl _ _ | with_reducible assumption | (with_reducible refine Below.setCell ?_ ?_ _; rotate_left; exact (by first | omega | (simp; done) | (simp; omega))) | (with_reducible refine Below.alloc ?_ ?_ _; rotate_left; exact (by first | omega | (simp; done) | (simp; omega))) | with_reducible refine Below.drew ?_ | with_reducible refine Below_drewN ?_ _))) (HY.out _ (by (repeat first | with_reducible exact Below.refl _ _ | with_reducible assumption | (with_reducible refine Below.setCell ?_ ?_ _; rotate_left; exact (by first | omega | (simp; done) | (simp; omega))) | (with_reducible refine Below.alloc ?_ ?_ _; rotate_left; exact (by first | omega | (simp; done) | (simp; omega))) | with_reducible refine Below.drew ?_ | with_reducible refine Below_drewN ?_ _))) HPX.out HPY.out HY0.out).mono ?_; rintro e w6 ⟨u6, rfl, V6, hb⟩; obtain ⟨n6, A6, k6, c6, rfl, V6⟩ := V6.open'; have hq6 : Below w8.heap.size w8 w6 := ⟨hb.os, hb.tape, hb.output, hb.size, hb.block⟩; have O6 := Lib.hid (HO8.out.call hq6); have X6 := Lib.hid (V6.apart HO8.out.rows); clear hb V6))
            all_goals go_wp2_with fail
            all_goals go_roundw
            all_goals first
              | exact ⟨k + 1, by omega, by go_num, by rw [HTD.out, HTU.out]; exact O7.out.swap⟩
              | (simp [intOf]; done)
              | (simp [intOf]; omega)
        · have hkn : k = nb := by omega
          have htk : lb.take k = lb := by rw [hkn, ← HLB.out]; exact List.take_length
          rw [htk] at hO1
          have HO1 := Lib.hid hO1
          clear hO1 htk
          subst hkn
          go_wp2_with fail
          go_roundw
          case rel => exact ⟨j + 1, by omega, by go_num, by rw [HSD.out, HSU.out]; exact HO1.out⟩
          case measure => first | (simp [intOf]; done) | (simp [intOf]; omega)
    · have hjn : j = na := by omega
      have htj : la.take j = la := by rw [hjn, ← HLA.out]; exact List.take_length
      rw [htj] at HO
      have hbd := prs_bound flo_absV BA.out BB.out
      have hbu := prs_bound cei_absV BA.out BB.out
      have hld : 1 ≤ (prs flo la lb).length ∧ (prs flo la lb).length ≤ 4 := by
        rw [prs_len, HLA.out, HLB.out]
        have h1 := Nat.mul_le_mul na2 nb2
        have h2 := Nat.mul_le_mul na1 nb1
        omega
      have hlu : 1 ≤ (prs cei la lb).length ∧ (prs cei la lb).length ≤ 4 := by
        rw [prs_len, HLA.out, HLB.out]
        have h1 := Nat.mul_le_mul na2 nb2
        have h2 := Nat.mul_le_mul na1 nb1
        omega
      have HBD := Lib.hid hbd
      have HBU := Lib.hid hbu
      generalize prs flo la lb = D at *
      generalize prs cei la lb = U at *
      obtain ⟨hld1, hld2⟩ := hld
      obtain ⟨hlu1, hlu2⟩ := hlu
      have hO := HO.out
      obtain ⟨gd, cd, hdv, hgd, hDb⟩ := hO.rd.bigs hld1
      obtain ⟨gu, cu, huv, hgu, hUb⟩ := hO.ru.bigs hlu1
      subst hdv huv
      have HB4 := Lib.hid (hB0.trans (hO.hB.mono hB0.size))
      have hz4 := hO.hB.size
      have HDb := Lib.hid hDb
      have HUb := Lib.hid hUb
      have HO4 := Lib.hid hO.hB
      clear hO HO hDb hUb hbd hbu htj
      subst hjn
      go_wp2_with fail
      refine (ends_any gd 0 D.length cd D _ rfl hld1 hld2 hgd HDb.out HBD.out).mono ?_
      rintro e w5 ⟨u5, v5, rfl, M5, N5, hb5⟩
      obtain ⟨n5, A5, k5, c5, rfl, M5⟩ := BigB.open' (base := 0) M5
      obtain ⟨n6, A6, k6, c6, rfl, N6⟩ := BigB.open' (base := 0) N5
      have HM5 := Lib.hid (fun W (h : Below w5.heap.size w5 W) => (BigB.below M5 h).big)
      have hs5 := hb5.size
      clear M5 N5 N6
      go_wp2_with fail
      refine (ends_any gu 0 U.length cu U _ rfl hlu1 hlu2 (by first | omega | (simp; done) | (simp; omega)) (HUb.out.below hgu (by (repeat first | with_reducible exact Below.refl _ _ | with_reducible assumption | (with_reducible refine Below.setCell ?_ ?_ _; rotate_left; exact (by first | omega | (simp; done) | (simp; omega))) | (with_reducible refine Below.alloc ?_ ?_ _; rotate_left; exact (by first | omega | (simp; done) | (simp; omega))) | with_reducible refine Below.drew ?_ | with_reducible refine Below_drewN ?_ _))) HBU.out).mono ?_
      rintro e w7 ⟨p7, q7, rfl, M7, N7, hb7⟩
      obtain ⟨n7, A7, k7, c7, rfl, M7⟩ := BigB.open' (base := 0) M7
      obtain ⟨n8, A8, k8, c8, rfl, N8⟩ := BigB.open' (base := 0) N7
      have HN7 := Lib.hid (fun W (h : Below w7.heap.size w7 W) => (BigB.below N8 h).big)
      have hB7 : Below w5.heap.size w5 w7 := Below.trans (by (repeat first | with_reducible exact Below.refl _ _ | with_reducible assumption | (with_reducible refine Below.setCell ?_ ?_ _; rotate_left; exact (by first | omega | (simp; done) | (simp; omega))) | (with_reducible refine Below.alloc ?_ ?_ _; rotate_left; exact (by first | omega | (simp; done) | (simp; omega))) | with_reducible refine Below.drew ?_ | with_reducible refine Below_drewN ?_ _)) (hb7.mono (by first | omega | (simp; done) | (simp; omega)))
      obtain ⟨hc, hf⟩ := bcell hb7
      have hs7 := hb7.size
      (try simp only [World.size_alloc, World.size_setCell] at hc hf hs7)
      have hl7 : w5.heap.size < w7.heap.size := by omega
      have hl8 : w5.heap.size + 1 < w7.heap.size := by omega
      have HB7 := Lib.hid hB7
      clear M7 N7 N8 hb7 hB7
      go_wp2_with fail
      have hB7 := HB7.out
      refine (result_any (minZ D) (maxZ U) _ _ _ (HM5.out _ (by (repeat first | with_reducible exact Below.refl _ _ | with_reducible assumption | (with_reducible refine Below.setCell ?_ ?_ _; rotate_left; exact (by first | omega | (simp; done) | (simp; omega))) | (with_reducible refine Below.alloc ?_ ?_ _; rotate_left; exact (by first | omega | (simp; done) | (simp; omega))) | with_reducible refine Below.drew ?_ | with_reducible refine Below_drewN ?_ _))) (HN7.out _ (by (repeat first | with_reducible exact Below.refl _ _ | with_reducible assumption | (with_reducible refine Below.setCell ?_ ?_ _; rotate_left; exact (by first | omega | (simp; done) | (simp; omega))) | (with_reducible refine Below.alloc ?_ ?_ _; rotate_left; exact (by first | omega | (simp; done) | (simp; omega))) | with_reducible refine Below.drew ?_ | with_reducible refine Below_drewN ?_ _)))).mono ?_
      rintro e w9 ⟨rfl, hb⟩
      have h79 : Below w7.heap.size w7 w9 := Below.trans (by (repeat first | with_reducible exact Below.refl _ _ | with_reducible assumption | (with_reducible refine Below.setCell ?_ ?_ _; rotate_left; exact (by first | omega | (simp; done) | (simp; omega))) | (with_reducible refine Below.alloc ?_ ?_ _; rotate_left; exact (by first | omega | (simp; done) | (simp; omega))) | with_reducible refine Below.drew ?_ | with_reducible refine Below_drewN ?_ _)) (hb.mono (by first | omega | (simp; done) | (simp; omega)))
      have hT : Below w4.heap.size w4 w9 := hb5.trans ((hB7.trans (h79.mono hB7.size)).mono hs5)
      have hU : Below W1.heap.size W1 w9 := HO4.out.trans (hT.mono hz4)
      have t0 := (hU.cell (p := ⟨w.heap.size, 0, none⟩) hz0).trans r0
      have t1 := (hU.cell (p := ⟨w.heap.size, 1, none⟩) hz0).trans r1
      have t2 := (hU.frozen (p := ⟨w.heap.size, 0, none⟩) hz0).trans f0
      have t3 := (hU.frozen (p := ⟨w.heap.size, 1, none⟩) hz0).trans f1
      have hE : Below w.heap.size w w9 := hB0.trans (hU.mono hB0.size)
      clear hb h79 hT hU hc hf hs7 hB7 hb5
      go_wp2
      exact bodyPost_ret (res3 Try.results27 _ _ _ _ _ _ rfl rfl (by (try simp only [isSome_setCell]); first | assumption | go_simp) (by (try simp only [isSome_setCell]); first | assumption | go_simp)) rfl ⟨rfl, by (repeat first | with_reducible exact Below.refl _ _ | with_reducible assumption | (with_reducible refine Below.setCell ?_ ?_ _; rotate_left; exact (by first | omega | (simp; done) | (simp; omega))) | (with_reducible refine Below.alloc ?_ ?_ _; rotate_left; exact (by first | omega | (simp; done) | (simp; omega))) | with_reducible refine Below.drew ?_ | with_reducible refine Below_drewN ?_ _)⟩

end Go.Proofs.Ytgfajfepmflfhaa
