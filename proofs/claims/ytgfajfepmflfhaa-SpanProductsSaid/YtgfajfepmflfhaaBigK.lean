/- The specification's whole numbers of any length: ends (the least and the greatest of some numbers), over this seat's translation. -/
import Derived.Test.YtgfajfepmflfhaaBigF
namespace Go.Proofs.Ytgfajfepmflfhaa
set_option linter.unusedVariables false
set_option linter.unusedSimpArgs false
open Go.RowKit

/-- The least and the greatest of some numbers. -/
def minZ : List Int → Int
  | [] => 0
  | x :: r => r.foldl min x
def maxZ : List Int → Int
  | [] => 0
  | x :: r => r.foldl max x
theorem minZ_snoc {l : List Int} (h : l ≠ []) (z : Int) : minZ (l ++ [z]) = min (minZ l) z := by
  cases l with
  | nil => exact absurd rfl h
  | cons x r => simp [minZ]
theorem maxZ_snoc {l : List Int} (h : l ≠ []) (z : Int) : maxZ (l ++ [z]) = max (maxZ l) z := by
  cases l with
  | nil => exact absurd rfl h
  | cons x r => simp [maxZ]
theorem take_snocZ (zs : List Int) (j : Nat) (h : j < zs.length) : zs.take (j + 1) = zs.take j ++ [zs.getD j 0] := by
  rw [List.take_succ_eq_append_getElem h, List.getD_eq_getElem?_getD, List.getElem?_eq_getElem h]
  rfl
theorem minZ_of {P : Int → Prop} : ∀ (l : List Int), l ≠ [] → (∀ z ∈ l, P z) → P (minZ l) ∧ P (maxZ l)
  | [], h, _ => absurd rfl h
  | x :: r, _, hp => by
    have key : ∀ (r : List Int) (x : Int), P x → (∀ z ∈ r, P z) → P (r.foldl min x) ∧ P (r.foldl max x) := by
      intro r
      induction r with
      | nil => intro x hx _; exact ⟨hx, hx⟩
      | cons y r ih =>
        intro x hx hr
        have hy := hr y (List.mem_cons_self ..)
        have hr' := fun z hz => hr z (List.mem_cons_of_mem _ hz)
        refine ⟨(ih (min x y) ?_ hr').1, (ih (max x y) ?_ hr').2⟩
        · rcases Int.le_total x y with h | h
          · rw [Int.min_eq_left h]; exact hx
          · rw [Int.min_eq_right h]; exact hy
        · rcases Int.le_total x y with h | h
          · rw [Int.max_eq_right h]; exact hy
          · rw [Int.max_eq_left h]; exact hx
    exact key r x (hp x (List.mem_cons_self ..)) (fun z hz => hp z (List.mem_cons_of_mem _ hz))

/-- A row of numbers, two cells each. -/
def Bigs (w : World) (b o : Nat) (zs : List Int) : Prop :=
  ∀ j, j < zs.length → ∃ x y, w.cell? ⟨b, o + j * 2, none⟩ = some x ∧ w.cell? ⟨b, o + j * 2 + 1, none⟩ = some y ∧ BigV w (.agg #[x, y]) (zs.getD j 0)

theorem BigV.form {w : World} {x y : Value} {z : Int} (h : BigV w (.agg #[x, y]) z) : ∃ (neg : Bool) (A : Option Addr) (k c : Nat), x = .bool neg ∧ y = .slice A k c := by
  obtain ⟨A, k, c, P, e, _⟩ := h
  injection e with e
  have e0 := congrArg (fun a : Array Value => a[0]?) e
  have e1 := congrArg (fun a : Array Value => a[1]?) e
  exact ⟨_, A, k, c, by simpa using e0, by simpa using e1⟩

theorem cmpB_lt {a b : Int} (h : a < b) : cmpB a b = -1 := by unfold cmpB; rw [if_neg (by omega), if_pos h]
theorem cmpB_ge {a b : Int} (h : b ≤ a) : 0 ≤ cmpB a b := by unfold cmpB; split; decide; rw [if_neg (by omega)]; decide
theorem cmpB_gt {a b : Int} (h : b < a) : cmpB a b = 1 := by unfold cmpB; rw [if_neg (by omega), if_neg (by omega)]
theorem cmpB_le {a b : Int} (h : a ≤ b) : cmpB a b ≤ 0 := by unfold cmpB; split; decide; rw [if_pos (by omega)]; decide

/-- Two structs of two cells as the two results. -/
theorem resE {fn : Func} {p q : Tmp} (h : fn.results = #[.cell p 41, .cell q 41]) (tmps : Array Value) (W : World) (b c : Nat) (x y z u : Value)
    (hp : tmps.getD p undef = .pointer (some ⟨b, 0, none⟩)) (hq : tmps.getD q undef = .pointer (some ⟨c, 0, none⟩)) (h0 : W.cell? ⟨b, 0, none⟩ = some x) (h1 : W.cell? ⟨b, 1, none⟩ = some y) (h2 : W.cell? ⟨c, 0, none⟩ = some z) (h3 : W.cell? ⟨c, 1, none⟩ = some u) :
    (results fn tmps).run Try.prog W = .ok (.tuple #[.agg #[x, y], .agg #[z, u]]) W := by
  have hp' : tmps[p]?.getD undef = .pointer (some ⟨b, 0, none⟩) := by simpa using hp
  have hq' : tmps[q]?.getD undef = .pointer (some ⟨c, 0, none⟩) := by simpa using hq
  simp only [results, h]
  simp [Sem.run_bind, Result.andThen, go_sem, hp', hq', h0, h1, h2, h3]

/-- What stays while ends looks: what it has found so far lies in blocks x and y. -/
structure EW (w wr : World) (x y : Nat) (u0 u1 v0 v1 : Value) : Prop where
  x0 : wr.cell? ⟨x, 0, none⟩ = some u0
  x1 : wr.cell? ⟨x, 1, none⟩ = some u1
  y0 : wr.cell? ⟨y, 0, none⟩ = some v0
  y1 : wr.cell? ⟨y, 1, none⟩ = some v1
  fx0 : wr.frozen? ⟨x, 0, none⟩ = false
  fx1 : wr.frozen? ⟨x, 1, none⟩ = false
  fy0 : wr.frozen? ⟨y, 0, none⟩ = false
  fy1 : wr.frozen? ⟨y, 1, none⟩ = false
  r0 : (wr.cell? ⟨w.heap.size, 0, none⟩).isSome = true
  r1 : (wr.cell? ⟨w.heap.size, 1, none⟩).isSome = true
  r2 : (wr.cell? ⟨w.heap.size + 1, 0, none⟩).isSome = true
  r3 : (wr.cell? ⟨w.heap.size + 1, 1, none⟩).isSome = true
  f0 : wr.frozen? ⟨w.heap.size, 0, none⟩ = false
  f1 : wr.frozen? ⟨w.heap.size, 1, none⟩ = false
  f2 : wr.frozen? ⟨w.heap.size + 1, 0, none⟩ = false
  f3 : wr.frozen? ⟨w.heap.size + 1, 1, none⟩ = false
  hx : w.heap.size + 1 < x
  hy : w.heap.size + 1 < y
  hxy : x ≠ y
  lx : x < wr.heap.size
  ly : y < wr.heap.size
  hB : Below w.heap.size w wr

theorem EW.drew {w wr : World} {x y : Nat} {u0 u1 v0 v1 : Value} (h : EW w wr x y u0 u1 v0 v1) : EW w wr.drew x y u0 u1 v0 v1 :=
  ⟨h.x0, h.x1, h.y0, h.y1, h.fx0, h.fx1, h.fy0, h.fy1, h.r0, h.r1, h.r2, h.r3, h.f0, h.f1, h.f2, h.f3, h.hx, h.hy, h.hxy, h.lx, h.ly, h.hB.drew⟩
theorem EW.call {w wr w1 : World} {x y : Nat} {u0 u1 v0 v1 : Value} (h : EW w wr x y u0 u1 v0 v1) (hb : Below wr.heap.size wr w1) : EW w w1 x y u0 u1 v0 v1 := by
  have lx := h.lx
  have ly := h.ly
  have hx := h.hx
  have c : ∀ b o, b < wr.heap.size → w1.cell? ⟨b, o, none⟩ = wr.cell? ⟨b, o, none⟩ := fun b o hh => hb.cell (p := ⟨b, o, none⟩) hh
  have f : ∀ b o, b < wr.heap.size → w1.frozen? ⟨b, o, none⟩ = wr.frozen? ⟨b, o, none⟩ := fun b o hh => hb.frozen (p := ⟨b, o, none⟩) hh
  have hs := hb.size
  refine ⟨?_, ?_, ?_, ?_, ?_, ?_, ?_, ?_, ?_, ?_, ?_, ?_, ?_, ?_, ?_, ?_, h.hx, h.hy, h.hxy, by omega, by omega, h.hB.trans (hb.mono h.hB.size)⟩
  · rw [c _ _ lx]; exact h.x0
  · rw [c _ _ lx]; exact h.x1
  · rw [c _ _ ly]; exact h.y0
  · rw [c _ _ ly]; exact h.y1
  · rw [f _ _ lx]; exact h.fx0
  · rw [f _ _ lx]; exact h.fx1
  · rw [f _ _ ly]; exact h.fy0
  · rw [f _ _ ly]; exact h.fy1
  · rw [c _ _ (by omega)]; exact h.r0
  · rw [c _ _ (by omega)]; exact h.r1
  · rw [c _ _ (by omega)]; exact h.r2
  · rw [c _ _ (by omega)]; exact h.r3
  · rw [f _ _ (by omega)]; exact h.f0
  · rw [f _ _ (by omega)]; exact h.f1
  · rw [f _ _ (by omega)]; exact h.f2
  · rw [f _ _ (by omega)]; exact h.f3
theorem set_two {W : World} {b : Nat} {p q u v : Value} (h0 : W.cell? ⟨b, 0, none⟩ = some u) (h1 : W.cell? ⟨b, 1, none⟩ = some v) :
    ((W.setCell ⟨b, 0, none⟩ p).setCell ⟨b, 1, none⟩ q).cell? ⟨b, 0, none⟩ = some p ∧ ((W.setCell ⟨b, 0, none⟩ p).setCell ⟨b, 1, none⟩ q).cell? ⟨b, 1, none⟩ = some q := by
  have n1 : (⟨b, 1, none⟩ : Addr) ≠ ⟨b, 0, none⟩ := by simp
  refine ⟨(World.cell?_setCell_other _ _ _ _ n1).trans (World.cell?_setCell_same' _ _ _ (by rw [h0]; rfl)), World.cell?_setCell_same' _ _ _ (by rw [isSome_setCell, h1]; rfl)⟩
theorem set_far {W : World} {b c o : Nat} {p q : Value} (h : b ≠ c) : ((W.setCell ⟨b, 0, none⟩ p).setCell ⟨b, 1, none⟩ q).cell? ⟨c, o, none⟩ = W.cell? ⟨c, o, none⟩ := by
  rw [World.cell?_setCell_other _ _ _ _ (by simp [h]), World.cell?_setCell_other _ _ _ _ (by simp [h])]
theorem EW.storeX {w wr : World} {x y : Nat} {u0 u1 v0 v1 : Value} (h : EW w wr x y u0 u1 v0 v1) (p q : Value) : EW w ((wr.setCell ⟨x, 0, none⟩ p).setCell ⟨x, 1, none⟩ q) x y p q v0 v1 := by
  have hx := h.hx
  refine ⟨(set_two h.x0 h.x1).1, (set_two h.x0 h.x1).2, (set_far h.hxy).trans h.y0, (set_far h.hxy).trans h.y1, ?_, ?_, ?_, ?_, ?_, ?_, ?_, ?_, ?_, ?_, ?_, ?_, h.hx, h.hy, h.hxy, ?_, ?_, (h.hB.setCell (by simp; omega) _).setCell (by simp; omega) _⟩
  all_goals (try simp only [isSome_setCell, World.frozen?_setCell, World.size_setCell])
  · exact h.fx0
  · exact h.fx1
  · exact h.fy0
  · exact h.fy1
  · exact h.r0
  · exact h.r1
  · exact h.r2
  · exact h.r3
  · exact h.f0
  · exact h.f1
  · exact h.f2
  · exact h.f3
  · exact h.lx
  · exact h.ly
theorem EW.storeY {w wr : World} {x y : Nat} {u0 u1 v0 v1 : Value} (h : EW w wr x y u0 u1 v0 v1) (p q : Value) : EW w ((wr.setCell ⟨y, 0, none⟩ p).setCell ⟨y, 1, none⟩ q) x y u0 u1 p q := by
  have hy := h.hy
  refine ⟨(set_far (Ne.symm h.hxy)).trans h.x0, (set_far (Ne.symm h.hxy)).trans h.x1, (set_two h.y0 h.y1).1, (set_two h.y0 h.y1).2, ?_, ?_, ?_, ?_, ?_, ?_, ?_, ?_, ?_, ?_, ?_, ?_, h.hx, h.hy, h.hxy, ?_, ?_, (h.hB.setCell (by simp; omega) _).setCell (by simp; omega) _⟩
  all_goals (try simp only [isSome_setCell, World.frozen?_setCell, World.size_setCell])
  · exact h.fx0
  · exact h.fx1
  · exact h.fy0
  · exact h.fy1
  · exact h.r0
  · exact h.r1
  · exact h.r2
  · exact h.r3
  · exact h.f0
  · exact h.f1
  · exact h.f2
  · exact h.f3
  · exact h.lx
  · exact h.ly

set_option maxHeartbeats 8000000 in
set_option maxRecDepth 100000 in
theorem ends_any (b o n cap : Nat) (zs : List Int) (w : World) (hlen : zs.length = n) (hn : 1 ≤ n) (hn4 : n ≤ 4) (hb : b < w.heap.size) (hz : Bigs w b o zs) (hs : ∀ z ∈ zs, max z (-z) < pw 32) :
    Calls Try.prog 19 #[.slice (some ⟨b, o, none⟩) n cap] w (fun e w' => ∃ u v, e = .returned (.tuple #[u, v]) ∧ BigV w' u (minZ zs) ∧ BigV w' v (maxZ zs) ∧ Below w.heap.size w w') := by
  obtain ⟨a0, a1, c0, c1, hv⟩ := hz 0 (by omega)
  obtain ⟨_, _, _, _, rfl, rfl⟩ := hv.form
  have e0 : zs.take 1 = [zs.getD 0 0] := by rw [take_snocZ zs 0 (by omega)]; rfl
  have HV0 := Lib.hid (show BigV w _ (minZ (zs.take 1)) ∧ BigV w _ (maxZ (zs.take 1)) from (by rw [e0]; exact ⟨hv, hv⟩))
  have HZ := Lib.hid hz
  have HL := Lib.hid hlen
  have HS := Lib.hid hs
  have n0 : (0 : Int) < n := by omega
  have z0 : o + 0 * 2 = o := by omega
  rw [z0] at c0 c1
  have hb1 : b < w.heap.size + 1 := by omega
  have hb2 : b < w.heap.size + 1 + 1 := by omega
  have hb3 : b < w.heap.size + 1 + 1 + 1 := by omega
  clear hv e0 hz hlen hs z0
  go_enter Try.func19, Try.ntmps19
  go_upto_region 1 with fail
  go_cut [4, 5] (fun s4 s5 wx => ∃ x y : Nat, s4 = .pointer (some ⟨x, 0, none⟩) ∧ s5 = .pointer (some ⟨y, 0, none⟩) ∧ ∃ a0 a1, EW w wx x y a0 a1 a0 a1 ∧ BigV w (.agg #[a0, a1]) (minZ (zs.take 1)) ∧ BigV w (.agg #[a0, a1]) (maxZ (zs.take 1)))
  case first =>
    go_region
    all_goals go_wp2_with fail
    all_goals go_meet
    all_goals exact ⟨_, _, rfl, rfl, _, _, ⟨(by go_simp), (by go_simp), (by go_simp), (by go_simp), (by go_simp), (by go_simp), (by go_simp), (by go_simp), (by go_simp), (by go_simp), (by go_simp), (by go_simp), (by go_simp), (by go_simp), (by go_simp), (by go_simp), (by first | omega | simp), (by first | omega | simp), (by first | omega | simp), (by first | omega | simp), (by first | omega | simp), (by (repeat first | with_reducible exact Below.refl _ _ | with_reducible assumption | (with_reducible refine Below.setCell ?_ ?_ _; rotate_left; exact (by first | omega | (simp; done) | (simp; omega))) | (with_reducible refine Below.alloc ?_ ?_ _; rotate_left; exact (by first | omega | (simp; done) | (simp; omega))) | with_reducible refine Below.drew ?_ | with_reducible refine Below_drewN ?_ _))⟩, HV0.out⟩
  case rest =>
    obtain ⟨x, y, rfl, rfl, a0, a1, hE, hV⟩ := hcut
    have HE := Lib.hid hE
    have HV0 := Lib.hid hV
    clear hE c0 c1 hV
    go_wp2_with fail
    go_loopw [6] (fun i wr => ∃ (j : Nat) (u0 u1 v0 v1 : Value), 1 ≤ j ∧ j ≤ n ∧ i = .int .i64 j ∧ BigV w (.agg #[u0, u1]) (minZ (zs.take j)) ∧ BigV w (.agg #[v0, v1]) (maxZ (zs.take j)) ∧ EW w wr x y u0 u1 v0 v1) (fun i _ => n - (intOf i).toNat)
    case atStart => exact ⟨1, _, _, _, _, Nat.le_refl _, hn, rfl, HV0.out.1, HV0.out.2, HE.out⟩
    case round =>
      obtain ⟨j, u0, u1, v0, v1, hj1, hj, rfl, hu, hv, hE⟩ := hrel
      have HE2 := Lib.hid hE
      obtain ⟨x0, x1, y0, y1, fx0, fx1, fy0, fy1, r0, r1, r2, r3, f0, f1, f2, f3, hx, hy, hxy, lx, ly, hB⟩ := hE
      have hz1 : w.heap.size < wr.heap.size := by omega
      have hz2 : w.heap.size + 1 < wr.heap.size := by omega
      have hne : zs.take j ≠ [] := by
        intro e
        have := congrArg List.length e
        rw [List.length_take, HL.out] at this
        simp at this
        omega
      obtain ⟨nu, Au, ku, cu, rfl, rfl⟩ := hu.form
      obtain ⟨nv, Av, kv, cv, rfl, rfl⟩ := hv.form
      have HU := Lib.hid (fun W (h : Below w.heap.size w W) => hu.below h)
      have HW := Lib.hid (fun W (h : Below w.heap.size w W) => hv.below h)
      have HU0 := Lib.hid hu
      have HW0 := Lib.hid hv
      clear hu hv
      by_cases hlt : j < n
      · obtain ⟨p, q, c0, c1, hw⟩ := HZ.out j (by rw [HL.out]; exact hlt)
        obtain ⟨np, Ap, kp, cp, rfl, rfl⟩ := hw.form
        have d0 := (hB.cell (p := ⟨b, o + j * 2, none⟩) hb).trans c0
        have d1 := (hB.cell (p := ⟨b, o + j * 2 + 1, none⟩) hb).trans c1
        have hts := take_snocZ zs j (by rw [HL.out]; exact hlt)
        have hmn := minZ_snoc hne (zs.getD j 0)
        have hmx := maxZ_snoc hne (zs.getD j 0)
        rw [← hts] at hmn hmx
        have bnd := minZ_of (P := fun z => max z (-z) < pw 32) (zs.take j) hne (fun z hz => HS.out z (List.mem_of_mem_take hz))
        have bz := HS.out (zs.getD j 0) (by
          rw [List.getD_eq_getElem?_getD, List.getElem?_eq_getElem (by rw [HL.out]; exact hlt)]
          exact List.getElem_mem _)
        have HP := Lib.hid (fun W (h : Below w.heap.size w W) => hw.below h)
        have HP0 := Lib.hid hw
        have HB1 := Lib.hid bnd.1
        have HB2 := Lib.hid bnd.2
        have HBZ := Lib.hid bz
        have HMN := Lib.hid hmn
        have HMX := Lib.hid hmx
        have hbn : b < wr.heap.size := Nat.lt_of_lt_of_le hb (by omega)
        have hbx : b ≠ x := by omega
        have hby : b ≠ y := by omega
        have hbw : b ≠ w.heap.size := by omega
        have j1 : (j : Int) < n := by omega
        have j0 : (0 : Int) ≤ j := by omega
        clear c0 c1 hts hmn hmx bnd bz hw hne
        generalize zs.getD j 0 = z at *
        generalize minZ (zs.take j) = lo at *
        generalize maxZ (zs.take j) = hi at *
        by_cases h1 : z < lo
        · by_cases h2 : hi < z
          · have C1 := Lib.hid (cmpB_lt h1)
            have C2 := Lib.hid (cmpB_gt h2)
            go_wp2_with fail
            have HS : Hid (∀ w' : World, Reg (w.heap.size) (wr) w' → (Reg (w.heap.size) (wr) w' ∧ w'.cell? ⟨b, o + j * 2, none⟩ = some (.bool np) ∧ w'.cell? ⟨b, o + j * 2 + 1, none⟩ = some (.slice Ap kp cp) ∧ w'.cell? ⟨x, 0, none⟩ = some (.bool nu) ∧ w'.cell? ⟨x, 1, none⟩ = some (.slice Au ku cu))) := (fun w' h => by (have hc := h.cells; have hs := h.some; have hf := h.frozen; refine ⟨h, ?_⟩; (try simp only [World.size_alloc, World.size_setCell, size_drew, size_drewN] at hc hs hf); first | (simp (disch := omega) only [hc, hs, hf, cur_iff]; (try go_simp); done) | (simp (disch := first | omega | (simp; done)) only [hc, hs, hf, cur_iff]; (try go_simp); done) | (simp (maxDischargeDepth := 4) [hc, hs, hf, cur_iff, go_sem]; done) | (go_simp; done) | (simp (maxDischargeDepth := 4) [hc, hs, hf, cur_iff, go_sem]; go_simp))); go_region_held3 (fun w' => Reg (w.heap.size) (wr) w' ∧ w'.cell? ⟨b, o + j * 2, none⟩ = some (.bool np) ∧ w'.cell? ⟨b, o + j * 2 + 1, none⟩ = some (.slice Ap kp cp) ∧ w'.cell? ⟨x, 0, none⟩ = some (.bool nu) ∧ w'.cell? ⟨x, 1, none⟩ = some (.slice Au ku cu)) (exact HS.out _ (by (repeat first | with_reducible exact Reg.refl _ _ | with_reducible exact Reg.drewN2 _ _ _ _ | with_reducible exact (‹Reg _ _ _ ∧ _›).1 | (with_reducible refine Reg.setCell ?_ ?_ _; rotate_left; exact (by first | omega | ((try simp only [World.size_alloc, World.size_setCell, size_drew, size_drewN]); omega) | (simp; done) | (simp; omega))) | with_reducible refine Reg.alloc ?_ _ | with_reducible refine Reg.drew ?_ | with_reducible refine Reg.drewN ?_ _ | (with_reducible apply Reg.call; rotate_left; with_reducible assumption)))) (first | (go_at_call 38; refine (compare_big _ _ _ _ _ (HP.out _ (Reg.out (‹Reg _ _ _ ∧ _›).1 (by (repeat first | with_reducible exact Below.refl _ _ | with_reducible assumption | (with_reducible refine Below.setCell ?_ ?_ _; rotate_left; exact (by first | omega | (simp; done) | (simp; omega))) | (with_reducible refine Below.alloc ?_ ?_ _; rotate_left; exact (by first | omega | (simp; done) | (simp; omega))) | with_reducible refine Below.drew ?_ | with_reducible refine Below_drewN ?_ _)) (by first | omega | (simp; done) | (simp; omega)))) (HU.out _ (Reg.out (‹Reg _ _ _ ∧ _›).1 (by (repeat first | with_reducible exact Below.refl _ _ | with_reducible assumption | (with_reducible refine Below.setCell ?_ ?_ _; rotate_left; exact (by first | omega | (simp; done) | (simp; omega))) | (with_reducible refine Below.alloc ?_ ?_ _; rotate_left; exact (by first | omega | (simp; done) | (simp; omega))) | with_reducible refine Below.drew ?_ | with_reducible refine Below_drewN ?_ _)) (by first | omega | (simp; done) | (simp; omega)))) HBZ.out HB1.out).mono ?_; rintro e w1 ⟨rfl, hb⟩; have hq1 := hb; rw [C1.out]; (first | (with_reducible have hk := Nat.lt_of_lt_of_le (size_alloc_lt _ _) hb.size) | (with_reducible have hk := Nat.lt_of_lt_of_le (size_alloc_drew_lt _ _) hb.size) | (with_reducible have hk := Nat.lt_of_lt_of_le hk hb.size) | skip); (try simp only [World.size_alloc, World.size_setCell, size_drew, size_drewN] at hk); obtain ⟨hc, hf⟩ := bcell hb; have hs := hb.size; (try simp only [World.size_alloc, World.size_setCell, size_drew, size_drewN] at hs)))
            have E1 := Lib.hid (HE2.out.drew.call hq1)
            have hw1 := hq1.size
            (try simp only [size_drew] at hw1)
            have g0 := E1.out.x0
            have g1 := E1.out.x1
            have g2 := E1.out.fx0
            have g3 := E1.out.fx1
            go_upto_region 7 with fail
            clear g0 g1 g2 g3
            have E2 := Lib.hid (E1.out.storeX (.bool np) (.slice Ap kp cp))
            have HS : Hid (∀ w' : World, Reg (x) (wr) w' → (Reg (x) (wr) w' ∧ w'.cell? ⟨b, o + j * 2, none⟩ = some (.bool np) ∧ w'.cell? ⟨b, o + j * 2 + 1, none⟩ = some (.slice Ap kp cp) ∧ w'.cell? ⟨y, 0, none⟩ = some (.bool nv) ∧ w'.cell? ⟨y, 1, none⟩ = some (.slice Av kv cv))) := (fun w' h => by (have hc := h.cells; have hs := h.some; have hf := h.frozen; refine ⟨h, ?_⟩; (try simp only [World.size_alloc, World.size_setCell, size_drew, size_drewN] at hc hs hf); first | (simp (disch := omega) only [hc, hs, hf, cur_iff]; (try go_simp); done) | (simp (disch := first | omega | (simp; done)) only [hc, hs, hf, cur_iff]; (try go_simp); done) | (simp (maxDischargeDepth := 4) [hc, hs, hf, cur_iff, go_sem]; done) | (go_simp; done) | (simp (maxDischargeDepth := 4) [hc, hs, hf, cur_iff, go_sem]; go_simp))); go_region_held3 (fun w' => Reg (x) (wr) w' ∧ w'.cell? ⟨b, o + j * 2, none⟩ = some (.bool np) ∧ w'.cell? ⟨b, o + j * 2 + 1, none⟩ = some (.slice Ap kp cp) ∧ w'.cell? ⟨y, 0, none⟩ = some (.bool nv) ∧ w'.cell? ⟨y, 1, none⟩ = some (.slice Av kv cv)) (exact HS.out _ (by (repeat first | with_reducible exact Reg.refl _ _ | with_reducible exact Reg.drewN2 _ _ _ _ | with_reducible exact (‹Reg _ _ _ ∧ _›).1 | (with_reducible refine Reg.setCell ?_ ?_ _; rotate_left; exact (by first | omega | ((try simp only [World.size_alloc, World.size_setCell, size_drew, size_drewN]); omega) | (simp; done) | (simp; omega))) | with_reducible refine Reg.alloc ?_ _ | with_reducible refine Reg.drew ?_ | with_reducible refine Reg.drewN ?_ _ | (with_reducible apply Reg.call; rotate_left; with_reducible assumption)))) (first | (go_at_call 38; refine (compare_big _ _ _ _ _ (HP.out _ (Reg.out (‹Reg _ _ _ ∧ _›).1 (by (repeat first | with_reducible exact Below.refl _ _ | with_reducible assumption | (with_reducible refine Below.setCell ?_ ?_ _; rotate_left; exact (by first | omega | (simp; done) | (simp; omega))) | (with_reducible refine Below.alloc ?_ ?_ _; rotate_left; exact (by first | omega | (simp; done) | (simp; omega))) | with_reducible refine Below.drew ?_ | with_reducible refine Below_drewN ?_ _)) (by first | omega | (simp; done) | (simp; omega)))) (HW.out _ (Reg.out (‹Reg _ _ _ ∧ _›).1 (by (repeat first | with_reducible exact Below.refl _ _ | with_reducible assumption | (with_reducible refine Below.setCell ?_ ?_ _; rotate_left; exact (by first | omega | (simp; done) | (simp; omega))) | (with_reducible refine Below.alloc ?_ ?_ _; rotate_left; exact (by first | omega | (simp; done) | (simp; omega))) | with_reducible refine Below.drew ?_ | with_reducible refine Below_drewN ?_ _)) (by first | omega | (simp; done) | (simp; omega)))) HBZ.out HB2.out).mono ?_; rintro e w1 ⟨rfl, hb⟩; have hq2 := hb; rw [C2.out]; (first | (with_reducible have hk := Nat.lt_of_lt_of_le (size_alloc_lt _ _) hb.size) | (with_reducible have hk := Nat.lt_of_lt_of_le (size_alloc_drew_lt _ _) hb.size) | (with_reducible have hk := Nat.lt_of_lt_of_le hk hb.size) | skip); (try simp only [World.size_alloc, World.size_setCell, size_drew, size_drewN] at hk); obtain ⟨hc, hf⟩ := bcell hb; have hs := hb.size; (try simp only [World.size_alloc, World.size_setCell, size_drew, size_drewN] at hs)))
            have E3 := Lib.hid (E2.out.drew.call hq2)
            have g0 := E3.out.y0
            have g1 := E3.out.y1
            have g2 := E3.out.fy0
            have g3 := E3.out.fy1
            go_wp2_with fail
            have E4 := Lib.hid (E3.out.storeY (.bool np) (.slice Ap kp cp))
            go_roundw
            case rel => exact ⟨j + 1, _, _, _, _, by omega, by omega, by go_num, (by rw [HMN.out, show min lo z = z by omega]; exact HP0.out), (by rw [HMX.out, show max hi z = z by omega]; exact HP0.out), E4.out⟩
            case measure => first | (simp [intOf]; done) | (simp [intOf]; omega)
          · have C1 := Lib.hid (cmpB_lt h1)
            have hc2 : cmpB z hi ≤ 0 := cmpB_le (by omega)
            go_wp2_with fail
            have HS : Hid (∀ w' : World, Reg (w.heap.size) (wr) w' → (Reg (w.heap.size) (wr) w' ∧ w'.cell? ⟨b, o + j * 2, none⟩ = some (.bool np) ∧ w'.cell? ⟨b, o + j * 2 + 1, none⟩ = some (.slice Ap kp cp) ∧ w'.cell? ⟨x, 0, none⟩ = some (.bool nu) ∧ w'.cell? ⟨x, 1, none⟩ = some (.slice Au ku cu))) := (fun w' h => by (have hc := h.cells; have hs := h.some; have hf := h.frozen; refine ⟨h, ?_⟩; (try simp only [World.size_alloc, World.size_setCell, size_drew, size_drewN] at hc hs hf); first | (simp (disch := omega) only [hc, hs, hf, cur_iff]; (try go_simp); done) | (simp (disch := first | omega | (simp; done)) only [hc, hs, hf, cur_iff]; (try go_simp); done) | (simp (maxDischargeDepth := 4) [hc, hs, hf, cur_iff, go_sem]; done) | (go_simp; done) | (simp (maxDischargeDepth := 4) [hc, hs, hf, cur_iff, go_sem]; go_simp))); go_region_held3 (fun w' => Reg (w.heap.size) (wr) w' ∧ w'.cell? ⟨b, o + j * 2, none⟩ = some (.bool np) ∧ w'.cell? ⟨b, o + j * 2 + 1, none⟩ = some (.slice Ap kp cp) ∧ w'.cell? ⟨x, 0, none⟩ = some (.bool nu) ∧ w'.cell? ⟨x, 1, none⟩ = some (.slice Au ku cu)) (exact HS.out _ (by (repeat first | with_reducible exact Reg.refl _ _ | with_reducible exact Reg.drewN2 _ _ _ _ | with_reducible exact (‹Reg _ _ _ ∧ _›).1 | (with_reducible refine Reg.setCell ?_ ?_ _; rotate_left; exact (by first | omega | ((try simp only [World.size_alloc, World.size_setCell, size_drew, size_drewN]); omega) | (simp; done) | (simp; omega))) | with_reducible refine Reg.alloc ?_ _ | with_reducible refine Reg.drew ?_ | with_reducible refine Reg.drewN ?_ _ | (with_reducible apply Reg.call; rotate_left; with_reducible assumption)))) (first | (go_at_call 38; refine (compare_big _ _ _ _ _ (HP.out _ (Reg.out (‹Reg _ _ _ ∧ _›).1 (by (repeat first | with_reducible exact Below.refl _ _ | with_reducible assumption | (with_reducible refine Below.setCell ?_ ?_ _; rotate_left; exact (by first | omega | (simp; done) | (simp; omega))) | (with_reducible refine Below.alloc ?_ ?_ _; rotate_left; exact (by first | omega | (simp; done) | (simp; omega))) | with_reducible refine Below.drew ?_ | with_reducible refine Below_drewN ?_ _)) (by first | omega | (simp; done) | (simp; omega)))) (HU.out _ (Reg.out (‹Reg _ _ _ ∧ _›).1 (by (repeat first | with_reducible exact Below.refl _ _ | with_reducible assumption | (with_reducible refine Below.setCell ?_ ?_ _; rotate_left; exact (by first | omega | (simp; done) | (simp; omega))) | (with_reducible refine Below.alloc ?_ ?_ _; rotate_left; exact (by first | omega | (simp; done) | (simp; omega))) | with_reducible refine Below.drew ?_ | with_reducible refine Below_drewN ?_ _)) (by first | omega | (simp; done) | (simp; omega)))) HBZ.out HB1.out).mono ?_; rintro e w1 ⟨rfl, hb⟩; have hq1 := hb; rw [C1.out]; (first | (with_reducible have hk := Nat.lt_of_lt_of_le (size_alloc_lt _ _) hb.size) | (with_reducible have hk := Nat.lt_of_lt_of_le (size_alloc_drew_lt _ _) hb.size) | (with_reducible have hk := Nat.lt_of_lt_of_le hk hb.size) | skip); (try simp only [World.size_alloc, World.size_setCell, size_drew, size_drewN] at hk); obtain ⟨hc, hf⟩ := bcell hb; have hs := hb.size; (try simp only [World.size_alloc, World.size_setCell, size_drew, size_drewN] at hs)))
            have E1 := Lib.hid (HE2.out.drew.call hq1)
            have hw1 := hq1.size
            (try simp only [size_drew] at hw1)
            have g0 := E1.out.x0
            have g1 := E1.out.x1
            have g2 := E1.out.fx0
            have g3 := E1.out.fx1
            go_upto_region 7 with fail
            clear g0 g1 g2 g3
            have E2 := Lib.hid (E1.out.storeX (.bool np) (.slice Ap kp cp))
            have HS : Hid (∀ w' : World, Reg (x) (wr) w' → (Reg (x) (wr) w' ∧ w'.cell? ⟨b, o + j * 2, none⟩ = some (.bool np) ∧ w'.cell? ⟨b, o + j * 2 + 1, none⟩ = some (.slice Ap kp cp) ∧ w'.cell? ⟨y, 0, none⟩ = some (.bool nv) ∧ w'.cell? ⟨y, 1, none⟩ = some (.slice Av kv cv))) := (fun w' h => by (have hc := h.cells; have hs := h.some; have hf := h.frozen; refine ⟨h, ?_⟩; (try simp only [World.size_alloc, World.size_setCell, size_drew, size_drewN] at hc hs hf); first | (simp (disch := omega) only [hc, hs, hf, cur_iff]; (try go_simp); done) | (simp (disch := first | omega | (simp; done)) only [hc, hs, hf, cur_iff]; (try go_simp); done) | (simp (maxDischargeDepth := 4) [hc, hs, hf, cur_iff, go_sem]; done) | (go_simp; done) | (simp (maxDischargeDepth := 4) [hc, hs, hf, cur_iff, go_sem]; go_simp))); go_region_held3 (fun w' => Reg (x) (wr) w' ∧ w'.cell? ⟨b, o + j * 2, none⟩ = some (.bool np) ∧ w'.cell? ⟨b, o + j * 2 + 1, none⟩ = some (.slice Ap kp cp) ∧ w'.cell? ⟨y, 0, none⟩ = some (.bool nv) ∧ w'.cell? ⟨y, 1, none⟩ = some (.slice Av kv cv)) (exact HS.out _ (by (repeat first | with_reducible exact Reg.refl _ _ | with_reducible exact Reg.drewN2 _ _ _ _ | with_reducible exact (‹Reg _ _ _ ∧ _›).1 | (with_reducible refine Reg.setCell ?_ ?_ _; rotate_left; exact (by first | omega | ((try simp only [World.size_alloc, World.size_setCell, size_drew, size_drewN]); omega) | (simp; done) | (simp; omega))) | with_reducible refine Reg.alloc ?_ _ | with_reducible refine Reg.drew ?_ | with_reducible refine Reg.drewN ?_ _ | (with_reducible apply Reg.call; rotate_left; with_reducible assumption)))) (first | (go_at_call 38; refine (compare_big _ _ _ _ _ (HP.out _ (Reg.out (‹Reg _ _ _ ∧ _›).1 (by (repeat first | with_reducible exact Below.refl _ _ | with_reducible assumption | (with_reducible refine Below.setCell ?_ ?_ _; rotate_left; exact (by first | omega | (simp; done) | (simp; omega))) | (with_reducible refine Below.alloc ?_ ?_ _; rotate_left; exact (by first | omega | (simp; done) | (simp; omega))) | with_reducible refine Below.drew ?_ | with_reducible refine Below_drewN ?_ _)) (by first | omega | (simp; done) | (simp; omega)))) (HW.out _ (Reg.out (‹Reg _ _ _ ∧ _›).1 (by (repeat first | with_reducible exact Below.refl _ _ | with_reducible assumption | (with_reducible refine Below.setCell ?_ ?_ _; rotate_left; exact (by first | omega | (simp; done) | (simp; omega))) | (with_reducible refine Below.alloc ?_ ?_ _; rotate_left; exact (by first | omega | (simp; done) | (simp; omega))) | with_reducible refine Below.drew ?_ | with_reducible refine Below_drewN ?_ _)) (by first | omega | (simp; done) | (simp; omega)))) HBZ.out HB2.out).mono ?_; rintro e w1 ⟨rfl, hb⟩; have hq2 := hb; (first | (with_reducible have hk := Nat.lt_of_lt_of_le (size_alloc_lt _ _) hb.size) | (with_reducible have hk := Nat.lt_of_lt_of_le (size_alloc_drew_lt _ _) hb.size) | (with_reducible have hk := Nat.lt_of_lt_of_le hk hb.size) | skip); (try simp only [World.size_alloc, World.size_setCell, size_drew, size_drewN] at hk); obtain ⟨hc, hf⟩ := bcell hb; have hs := hb.size; (try simp only [World.size_alloc, World.size_setCell, size_drew, size_drewN] at hs)))
            have E3 := Lib.hid (E2.out.drew.call hq2)
            have g0 := E3.out.y0
            have g1 := E3.out.y1
            have g2 := E3.out.fy0
            have g3 := E3.out.fy1
            go_wp2_with fail
            have E4 := E3
            go_roundw
            case rel => exact ⟨j + 1, _, _, _, _, by omega, by omega, by go_num, (by rw [HMN.out, show min lo z = z by omega]; exact HP0.out), (by rw [HMX.out, show max hi z = hi by omega]; exact HW0.out), E4.out⟩
            case measure => first | (simp [intOf]; done) | (simp [intOf]; omega)
        · by_cases h2 : hi < z
          · have C2 := Lib.hid (cmpB_gt h2)
            have hc1 : 0 ≤ cmpB z lo := cmpB_ge (by omega)
            go_wp2_with fail
            have HS : Hid (∀ w' : World, Reg (w.heap.size) (wr) w' → (Reg (w.heap.size) (wr) w' ∧ w'.cell? ⟨b, o + j * 2, none⟩ = some (.bool np) ∧ w'.cell? ⟨b, o + j * 2 + 1, none⟩ = some (.slice Ap kp cp) ∧ w'.cell? ⟨x, 0, none⟩ = some (.bool nu) ∧ w'.cell? ⟨x, 1, none⟩ = some (.slice Au ku cu))) := (fun w' h => by (have hc := h.cells; have hs := h.some; have hf := h.frozen; refine ⟨h, ?_⟩; (try simp only [World.size_alloc, World.size_setCell, size_drew, size_drewN] at hc hs hf); first | (simp (disch := omega) only [hc, hs, hf, cur_iff]; (try go_simp); done) | (simp (disch := first | omega | (simp; done)) only [hc, hs, hf, cur_iff]; (try go_simp); done) | (simp (maxDischargeDepth := 4) [hc, hs, hf, cur_iff, go_sem]; done) | (go_simp; done) | (simp (maxDischargeDepth := 4) [hc, hs, hf, cur_iff, go_sem]; go_simp))); go_region_held3 (fun w' => Reg (w.heap.size) (wr) w' ∧ w'.cell? ⟨b, o + j * 2, none⟩ = some (.bool np) ∧ w'.cell? ⟨b, o + j * 2 + 1, none⟩ = some (.slice Ap kp cp) ∧ w'.cell? ⟨x, 0, none⟩ = some (.bool nu) ∧ w'.cell? ⟨x, 1, none⟩ = some (.slice Au ku cu)) (exact HS.out _ (by (repeat first | with_reducible exact Reg.refl _ _ | with_reducible exact Reg.drewN2 _ _ _ _ | with_reducible exact (‹Reg _ _ _ ∧ _›).1 | (with_reducible refine Reg.setCell ?_ ?_ _; rotate_left; exact (by first | omega | ((try simp only [World.size_alloc, World.size_setCell, size_drew, size_drewN]); omega) | (simp; done) | (simp; omega))) | with_reducible refine Reg.alloc ?_ _ | with_reducible refine Reg.drew ?_ | with_reducible refine Reg.drewN ?_ _ | (with_reducible apply Reg.call; rotate_left; with_reducible assumption)))) (first | (go_at_call 38; refine (compare_big _ _ _ _ _ (HP.out _ (Reg.out (‹Reg _ _ _ ∧ _›).1 (by (repeat first | with_reducible exact Below.refl _ _ | with_reducible assumption | (with_reducible refine Below.setCell ?_ ?_ _; rotate_left; exact (by first | omega | (simp; done) | (simp; omega))) | (with_reducible refine Below.alloc ?_ ?_ _; rotate_left; exact (by first | omega | (simp; done) | (simp; omega))) | with_reducible refine Below.drew ?_ | with_reducible refine Below_drewN ?_ _)) (by first | omega | (simp; done) | (simp; omega)))) (HU.out _ (Reg.out (‹Reg _ _ _ ∧ _›).1 (by (repeat first | with_reducible exact Below.refl _ _ | with_reducible assumption | (with_reducible refine Below.setCell ?_ ?_ _; rotate_left; exact (by first | omega | (simp; done) | (simp; omega))) | (with_reducible refine Below.alloc ?_ ?_ _; rotate_left; exact (by first | omega | (simp; done) | (simp; omega))) | with_reducible refine Below.drew ?_ | with_reducible refine Below_drewN ?_ _)) (by first | omega | (simp; done) | (simp; omega)))) HBZ.out HB1.out).mono ?_; rintro e w1 ⟨rfl, hb⟩; have hq1 := hb; (first | (with_reducible have hk := Nat.lt_of_lt_of_le (size_alloc_lt _ _) hb.size) | (with_reducible have hk := Nat.lt_of_lt_of_le (size_alloc_drew_lt _ _) hb.size) | (with_reducible have hk := Nat.lt_of_lt_of_le hk hb.size) | skip); (try simp only [World.size_alloc, World.size_setCell, size_drew, size_drewN] at hk); obtain ⟨hc, hf⟩ := bcell hb; have hs := hb.size; (try simp only [World.size_alloc, World.size_setCell, size_drew, size_drewN] at hs)))
            have E1 := Lib.hid (HE2.out.drew.call hq1)
            have hw1 := hq1.size
            (try simp only [size_drew] at hw1)
            have g0 := E1.out.x0
            have g1 := E1.out.x1
            have g2 := E1.out.fx0
            have g3 := E1.out.fx1
            go_upto_region 7 with fail
            clear g0 g1 g2 g3
            have E2 := E1
            have HS : Hid (∀ w' : World, Reg (x) (wr) w' → (Reg (x) (wr) w' ∧ w'.cell? ⟨b, o + j * 2, none⟩ = some (.bool np) ∧ w'.cell? ⟨b, o + j * 2 + 1, none⟩ = some (.slice Ap kp cp) ∧ w'.cell? ⟨y, 0, none⟩ = some (.bool nv) ∧ w'.cell? ⟨y, 1, none⟩ = some (.slice Av kv cv))) := (fun w' h => by (have hc := h.cells; have hs := h.some; have hf := h.frozen; refine ⟨h, ?_⟩; (try simp only [World.size_alloc, World.size_setCell, size_drew, size_drewN] at hc hs hf); first | (simp (disch := omega) only [hc, hs, hf, cur_iff]; (try go_simp); done) | (simp (disch := first | omega | (simp; done)) only [hc, hs, hf, cur_iff]; (try go_simp); done) | (simp (maxDischargeDepth := 4) [hc, hs, hf, cur_iff, go_sem]; done) | (go_simp; done) | (simp (maxDischargeDepth := 4) [hc, hs, hf, cur_iff, go_sem]; go_simp))); go_region_held3 (fun w' => Reg (x) (wr) w' ∧ w'.cell? ⟨b, o + j * 2, none⟩ = some (.bool np) ∧ w'.cell? ⟨b, o + j * 2 + 1, none⟩ = some (.slice Ap kp cp) ∧ w'.cell? ⟨y, 0, none⟩ = some (.bool nv) ∧ w'.cell? ⟨y, 1, none⟩ = some (.slice Av kv cv)) (exact HS.out _ (by (repeat first | with_reducible exact Reg.refl _ _ | with_reducible exact Reg.drewN2 _ _ _ _ | with_reducible exact (‹Reg _ _ _ ∧ _›).1 | (with_reducible refine Reg.setCell ?_ ?_ _; rotate_left; exact (by first | omega | ((try simp only [World.size_alloc, World.size_setCell, size_drew, size_drewN]); omega) | (simp; done) | (simp; omega))) | with_reducible refine Reg.alloc ?_ _ | with_reducible refine Reg.drew ?_ | with_reducible refine Reg.drewN ?_ _ | (with_reducible apply Reg.call; rotate_left; with_reducible assumption)))) (first | (go_at_call 38; refine (compare_big _ _ _ _ _ (HP.out _ (Reg.out (‹Reg _ _ _ ∧ _›).1 (by (repeat first | with_reducible exact Below.refl _ _ | with_reducible assumption | (with_reducible refine Below.setCell ?_ ?_ _; rotate_left; exact (by first | omega | (simp; done) | (simp; omega))) | (with_reducible refine Below.alloc ?_ ?_ _; rotate_left; exact (by first | omega | (simp; done) | (simp; omega))) | with_reducible refine Below.drew ?_ | with_reducible refine Below_drewN ?_ _)) (by first | omega | (simp; done) | (simp; omega)))) (HW.out _ (Reg.out (‹Reg _ _ _ ∧ _›).1 (by (repeat first | with_reducible exact Below.refl _ _ | with_reducible assumption | (with_reducible refine Below.setCell ?_ ?_ _; rotate_left; exact (by first | omega | (simp; done) | (simp; omega))) | (with_reducible refine Below.alloc ?_ ?_ _; rotate_left; exact (by first | omega | (simp; done) | (simp; omega))) | with_reducible refine Below.drew ?_ | with_reducible refine Below_drewN ?_ _)) (by first | omega | (simp; done) | (simp; omega)))) HBZ.out HB2.out).mono ?_; rintro e w1 ⟨rfl, hb⟩; have hq2 := hb; rw [C2.out]; (first | (with_reducible have hk := Nat.lt_of_lt_of_le (size_alloc_lt _ _) hb.size) | (with_reducible have hk := Nat.lt_of_lt_of_le (size_alloc_drew_lt _ _) hb.size) | (with_reducible have hk := Nat.lt_of_lt_of_le hk hb.size) | skip); (try simp only [World.size_alloc, World.size_setCell, size_drew, size_drewN] at hk); obtain ⟨hc, hf⟩ := bcell hb; have hs := hb.size; (try simp only [World.size_alloc, World.size_setCell, size_drew, size_drewN] at hs)))
            have E3 := Lib.hid (E2.out.drew.call hq2)
            have g0 := E3.out.y0
            have g1 := E3.out.y1
            have g2 := E3.out.fy0
            have g3 := E3.out.fy1
            go_wp2_with fail
            have E4 := Lib.hid (E3.out.storeY (.bool np) (.slice Ap kp cp))
            go_roundw
            case rel => exact ⟨j + 1, _, _, _, _, by omega, by omega, by go_num, (by rw [HMN.out, show min lo z = lo by omega]; exact HU0.out), (by rw [HMX.out, show max hi z = z by omega]; exact HP0.out), E4.out⟩
            case measure => first | (simp [intOf]; done) | (simp [intOf]; omega)
          · have hc1 : 0 ≤ cmpB z lo := cmpB_ge (by omega)
            have hc2 : cmpB z hi ≤ 0 := cmpB_le (by omega)
            go_wp2_with fail
            have HS : Hid (∀ w' : World, Reg (w.heap.size) (wr) w' → (Reg (w.heap.size) (wr) w' ∧ w'.cell? ⟨b, o + j * 2, none⟩ = some (.bool np) ∧ w'.cell? ⟨b, o + j * 2 + 1, none⟩ = some (.slice Ap kp cp) ∧ w'.cell? ⟨x, 0, none⟩ = some (.bool nu) ∧ w'.cell? ⟨x, 1, none⟩ = some (.slice Au ku cu))) := (fun w' h => by (have hc := h.cells; have hs := h.some; have hf := h.frozen; refine ⟨h, ?_⟩; (try simp only [World.size_alloc, World.size_setCell, size_drew, size_drewN] at hc hs hf); first | (simp (disch := omega) only [hc, hs, hf, cur_iff]; (try go_simp); done) | (simp (disch := first | omega | (simp; done)) only [hc, hs, hf, cur_iff]; (try go_simp); done) | (simp (maxDischargeDepth := 4) [hc, hs, hf, cur_iff, go_sem]; done) | (go_simp; done) | (simp (maxDischargeDepth := 4) [hc, hs, hf, cur_iff, go_sem]; go_simp))); go_region_held3 (fun w' => Reg (w.heap.size) (wr) w' ∧ w'.cell? ⟨b, o + j * 2, none⟩ = some (.bool np) ∧ w'.cell? ⟨b, o + j * 2 + 1, none⟩ = some (.slice Ap kp cp) ∧ w'.cell? ⟨x, 0, none⟩ = some (.bool nu) ∧ w'.cell? ⟨x, 1, none⟩ = some (.slice Au ku cu)) (exact HS.out _ (by (repeat first | with_reducible exact Reg.refl _ _ | with_reducible exact Reg.drewN2 _ _ _ _ | with_reducible exact (‹Reg _ _ _ ∧ _›).1 | (with_reducible refine Reg.setCell ?_ ?_ _; rotate_left; exact (by first | omega | ((try simp only [World.size_alloc, World.size_setCell, size_drew, size_drewN]); omega) | (simp; done) | (simp; omega))) | with_reducible refine Reg.alloc ?_ _ | with_reducible refine Reg.drew ?_ | with_reducible refine Reg.drewN ?_ _ | (with_reducible apply Reg.call; rotate_left; with_reducible assumption)))) (first | (go_at_call 38; refine (compare_big _ _ _ _ _ (HP.out _ (Reg.out (‹Reg _ _ _ ∧ _›).1 (by (repeat first | with_reducible exact Below.refl _ _ | with_reducible assumption | (with_reducible refine Below.setCell ?_ ?_ _; rotate_left; exact (by first | omega | (simp; done) | (simp; omega))) | (with_reducible refine Below.alloc ?_ ?_ _; rotate_left; exact (by first | omega | (simp; done) | (simp; omega))) | with_reducible refine Below.drew ?_ | with_reducible refine Below_drewN ?_ _)) (by first | omega | (simp; done) | (simp; omega)))) (HU.out _ (Reg.out (‹Reg _ _ _ ∧ _›).1 (by (repeat first | with_reducible exact Below.refl _ _ | with_reducible assumption | (with_reducible refine Below.setCell ?_ ?_ _; rotate_left; exact (by first | omega | (simp; done) | (simp; omega))) | (with_reducible refine Below.alloc ?_ ?_ _; rotate_left; exact (by first | omega | (simp; done) | (simp; omega))) | with_reducible refine Below.drew ?_ | with_reducible refine Below_drewN ?_ _)) (by first | omega | (simp; done) | (simp; omega)))) HBZ.out HB1.out).mono ?_; rintro e w1 ⟨rfl, hb⟩; have hq1 := hb; (first | (with_reducible have hk := Nat.lt_of_lt_of_le (size_alloc_lt _ _) hb.size) | (with_reducible have hk := Nat.lt_of_lt_of_le (size_alloc_drew_lt _ _) hb.size) | (with_reducible have hk := Nat.lt_of_lt_of_le hk hb.size) | skip); (try simp only [World.size_alloc, World.size_setCell, size_drew, size_drewN] at hk); obtain ⟨hc, hf⟩ := bcell hb; have hs := hb.size; (try simp only [World.size_alloc, World.size_setCell, size_drew, size_drewN] at hs)))
            have E1 := Lib.hid (HE2.out.drew.call hq1)
            have hw1 := hq1.size
            (try simp only [size_drew] at hw1)
            have g0 := E1.out.x0
            have g1 := E1.out.x1
            have g2 := E1.out.fx0
            have g3 := E1.out.fx1
            go_upto_region 7 with fail
            clear g0 g1 g2 g3
            have E2 := E1
            have HS : Hid (∀ w' : World, Reg (x) (wr) w' → (Reg (x) (wr) w' ∧ w'.cell? ⟨b, o + j * 2, none⟩ = some (.bool np) ∧ w'.cell? ⟨b, o + j * 2 + 1, none⟩ = some (.slice Ap kp cp) ∧ w'.cell? ⟨y, 0, none⟩ = some (.bool nv) ∧ w'.cell? ⟨y, 1, none⟩ = some (.slice Av kv cv))) := (fun w' h => by (have hc := h.cells; have hs := h.some; have hf := h.frozen; refine ⟨h, ?_⟩; (try simp only [World.size_alloc, World.size_setCell, size_drew, size_drewN] at hc hs hf); first | (simp (disch := omega) only [hc, hs, hf, cur_iff]; (try go_simp); done) | (simp (disch := first | omega | (simp; done)) only [hc, hs, hf, cur_iff]; (try go_simp); done) | (simp (maxDischargeDepth := 4) [hc, hs, hf, cur_iff, go_sem]; done) | (go_simp; done) | (simp (maxDischargeDepth := 4) [hc, hs, hf, cur_iff, go_sem]; go_simp))); go_region_held3 (fun w' => Reg (x) (wr) w' ∧ w'.cell? ⟨b, o + j * 2, none⟩ = some (.bool np) ∧ w'.cell? ⟨b, o + j * 2 + 1, none⟩ = some (.slice Ap kp cp) ∧ w'.cell? ⟨y, 0, none⟩ = some (.bool nv) ∧ w'.cell? ⟨y, 1, none⟩ = some (.slice Av kv cv)) (exact HS.out _ (by (repeat first | with_reducible exact Reg.refl _ _ | with_reducible exact Reg.drewN2 _ _ _ _ | with_reducible exact (‹Reg _ _ _ ∧ _›).1 | (with_reducible refine Reg.setCell ?_ ?_ _; rotate_left; exact (by first | omega | ((try simp only [World.size_alloc, World.size_setCell, size_drew, size_drewN]); omega) | (simp; done) | (simp; omega))) | with_reducible refine Reg.alloc ?_ _ | with_reducible refine Reg.drew ?_ | with_reducible refine Reg.drewN ?_ _ | (with_reducible apply Reg.call; rotate_left; with_reducible assumption)))) (first | (go_at_call 38; refine (compare_big _ _ _ _ _ (HP.out _ (Reg.out (‹Reg _ _ _ ∧ _›).1 (by (repeat first | with_reducible exact Below.refl _ _ | with_reducible assumption | (with_reducible refine Below.setCell ?_ ?_ _; rotate_left; exact (by first | omega | (simp; done) | (simp; omega))) | (with_reducible refine Below.alloc ?_ ?_ _; rotate_left; exact (by first | omega | (simp; done) | (simp; omega))) | with_reducible refine Below.drew ?_ | with_reducible refine Below_drewN ?_ _)) (by first | omega | (simp; done) | (simp; omega)))) (HW.out _ (Reg.out (‹Reg _ _ _ ∧ _›).1 (by (repeat first | with_reducible exact Below.refl _ _ | with_reducible assumption | (with_reducible refine Below.setCell ?_ ?_ _; rotate_left; exact (by first | omega | (simp; done) | (simp; omega))) | (with_reducible refine Below.alloc ?_ ?_ _; rotate_left; exact (by first | omega | (simp; done) | (simp; omega))) | with_reducible refine Below.drew ?_ | with_reducible refine Below_drewN ?_ _)) (by first | omega | (simp; done) | (simp; omega)))) HBZ.out HB2.out).mono ?_; rintro e w1 ⟨rfl, hb⟩; have hq2 := hb; (first | (with_reducible have hk := Nat.lt_of_lt_of_le (size_alloc_lt _ _) hb.size) | (with_reducible have hk := Nat.lt_of_lt_of_le (size_alloc_drew_lt _ _) hb.size) | (with_reducible have hk := Nat.lt_of_lt_of_le hk hb.size) | skip); (try simp only [World.size_alloc, World.size_setCell, size_drew, size_drewN] at hk); obtain ⟨hc, hf⟩ := bcell hb; have hs := hb.size; (try simp only [World.size_alloc, World.size_setCell, size_drew, size_drewN] at hs)))
            have E3 := Lib.hid (E2.out.drew.call hq2)
            have g0 := E3.out.y0
            have g1 := E3.out.y1
            have g2 := E3.out.fy0
            have g3 := E3.out.fy1
            go_wp2_with fail
            have E4 := E3
            go_roundw
            case rel => exact ⟨j + 1, _, _, _, _, by omega, by omega, by go_num, (by rw [HMN.out, show min lo z = lo by omega]; exact HU0.out), (by rw [HMX.out, show max hi z = hi by omega]; exact HW0.out), E4.out⟩
            case measure => first | (simp [intOf]; done) | (simp [intOf]; omega)
      · have hjn : j = n := by omega
        have e : zs.take j = zs := by rw [hjn, ← HL.out]; exact List.take_length
        rw [e] at HU0 HW0
        clear HU HW e hne
        subst hjn
        obtain ⟨_, r0⟩ := Option.isSome_iff_exists.1 r0
        obtain ⟨_, r1⟩ := Option.isSome_iff_exists.1 r1
        obtain ⟨_, r2⟩ := Option.isSome_iff_exists.1 r2
        obtain ⟨_, r3⟩ := Option.isSome_iff_exists.1 r3
        go_upto_region 9 with fail
        go_region
        all_goals go_wp2
        all_goals exact bodyPost_ret (resE Try.results19 _ _ _ _ (.bool nu) (.slice Au ku cu) (.bool nv) (.slice Av kv cv) rfl rfl (by go_simp) (by go_simp) (by go_simp) (by go_simp)) rfl ⟨_, _, rfl, HU0.out.below (by (repeat first | with_reducible exact Below.refl _ _ | with_reducible assumption | (with_reducible refine Below.setCell ?_ ?_ _; rotate_left; exact (by first | omega | (simp; done) | (simp; omega))) | (with_reducible refine Below.alloc ?_ ?_ _; rotate_left; exact (by first | omega | (simp; done) | (simp; omega))) | with_reducible refine Below.drew ?_ | with_reducible refine Below_drewN ?_ _)), HW0.out.below (by (repeat first | with_reducible exact Below.refl _ _ | with_reducible assumption | (with_reducible refine Below.setCell ?_ ?_ _; rotate_left; exact (by first | omega | (simp; done) | (simp; omega))) | (with_reducible refine Below.alloc ?_ ?_ _; rotate_left; exact (by first | omega | (simp; done) | (simp; omega))) | with_reducible refine Below.drew ?_ | with_reducible refine Below_drewN ?_ _)), by (repeat first | with_reducible exact Below.refl _ _ | with_reducible assumption | (with_reducible refine Below.setCell ?_ ?_ _; rotate_left; exact (by first | omega | (simp; done) | (simp; omega))) | (with_reducible refine Below.alloc ?_ ?_ _; rotate_left; exact (by first | omega | (simp; done) | (simp; omega))) | with_reducible refine Below.drew ?_ | with_reducible refine Below_drewN ?_ _)⟩

end Go.Proofs.Ytgfajfepmflfhaa
