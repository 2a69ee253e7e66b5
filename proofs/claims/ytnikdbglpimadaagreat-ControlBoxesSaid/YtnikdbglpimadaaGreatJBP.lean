import Derived.Test.YtnikdbglpimadaaGreatJAN
import Derived.Test.YtnikdbglpimadaaGreatJAS
import Derived.Test.YtnikdbglpimadaaGreatJAT
import Derived.Test.YtnikdbglpimadaaGreatJBL
import Derived.Test.YtnikdbglpimadaaGreatJBO
section
/- Package control: Wish, over this seat's translation (written by mk_ctw.py). -/
namespace Go.Proofs.YtnikdbglpimadaaGreat
set_option linter.unusedVariables false
set_option linter.unusedSimpArgs false
open Go.RowKit Go.Shelf

/-- A coil's wish. -/
def wish1 (c : CoilD) (g : GainD) (r z y0 y1 : Int) : Int := cutL ((g.r * r + g.z * z + g.sr * y0 + g.sz * y1).tdiv 1000) c.step
def wishL (M : MachD) (gs : List GainD) (r z y0 y1 : Int) : List Int := List.zipWith (fun c g => wish1 c g r z y0 y1) M.coils gs
def wishE (M : MachD) (gs : List GainD) (most y0 y1 gr gz : Int) (s : ShapeD) : Int :=
  if setupB M gs most = true then if memB y0 y1 = true then (errL gr gz s).2.2.2.2 else 1 else 1
def wishT (M : MachD) (gs : List GainD) (most y0 y1 gr gz : Int) (s : ShapeD) : List Int :=
  if wishE M gs most y0 y1 gr gz s = 0 then wishL M gs (provedL (errL gr gz s).1 (errL gr gz s).2.1) (provedL (errL gr gz s).2.2.1 (errL gr gz s).2.2.2.1) y0 y1 else []
theorem provedL_in (a b : Int) : -1000000000000000 ≤ provedL a b ∧ provedL a b ≤ 1000000000000000 := by
  unfold provedL
  split
  · rename_i h
    have := vld_iff.1 h
    omega
  · omega
theorem setupB_parts {M : MachD} {gs : List GainD} {most : Int} (h : setupB M gs most = true) : checkC M = 0 ∧ gs.length = M.coils.length ∧ gs.any strongB = false ∧ 0 ≤ most ∧ most ≤ 1000000000 := by
  unfold setupB at h
  simp only [Bool.and_eq_true, decide_eq_true_iff, Bool.not_eq_true'] at h
  have := wthn_iff.1 h.2.2.2
  exact ⟨h.1, h.2.1, h.2.2.1, this.1, this.2⟩
theorem strong_in {gs : List GainD} (h : gs.any strongB = false) {k : Nat} {x : GainD} (hx : gs[k]? = some x) : ((-1000000 ≤ x.r ∧ x.r ≤ 1000000) ∧ (-1000000 ≤ x.z ∧ x.z ≤ 1000000)) ∧ (-1000000 ≤ x.sr ∧ x.sr ≤ 1000000) ∧ (-1000000 ≤ x.sz ∧ x.sz ≤ 1000000) := by
  have h1 := List.any_eq_false.1 h x (List.mem_of_getElem? hx)
  unfold strongB at h1
  simp only [List.any_cons, List.any_nil, Bool.or_false, Bool.or_eq_true, not_or, Bool.not_eq_true', Bool.not_eq_false] at h1
  exact ⟨⟨wthn_iff.1 h1.1, wthn_iff.1 h1.2.1⟩, wthn_iff.1 h1.2.2.1, wthn_iff.1 h1.2.2.2⟩
theorem coil_step {x : CoilD} {e : List CoilD} (h : coilC x e = 0) : 1 ≤ x.step ∧ x.step ≤ 1000000 := by
  unfold coilC at h
  split at h
  · split at h
    · omega
    · unfold rng at h
      split at h
      · rename_i h2
        simp only [Bool.and_eq_true] at h2
        exact wthn_iff.1 h2.2.2.2.1
      · omega
  · omega
theorem steps_of {M : MachD} (h : checkC M = 0) {k : Nat} {c : CoilD} (hc : M.coils[k]? = some c) : 1 ≤ c.step ∧ c.step ≤ 1000000 := by
  have h1 := (orL_zero (orL_zero h).2)
  obtain ⟨e, he⟩ := (eachC_all h1.1).2 c (List.mem_of_getElem? hc)
  exact coil_step he
theorem wishL_get {M : MachD} {gs : List GainD} {r z y0 y1 : Int} {k : Nat} {c : CoilD} {g : GainD} (hc : M.coils[k]? = some c) (hg : gs[k]? = some g) : (wishL M gs r z y0 y1)[k]? = some (wish1 c g r z y0 y1) := by
  unfold wishL
  rw [List.getElem?_zipWith, hc, hg]
theorem wishL_len {M : MachD} {gs : List GainD} {r z y0 y1 : Int} (h : gs.length = M.coils.length) : (wishL M gs r z y0 y1).length = M.coils.length := by
  unfold wishL
  rw [List.length_zipWith, h, Nat.min_self]
theorem isT4 {W : World} {b : Nat} {x0 x1 x2 x3 : Int} (hb : b < W.heap.size) (c0 : W.cell? ⟨b, 0, none⟩ = some (.int .i64 x0)) (c1 : W.cell? ⟨b, 1, none⟩ = some (.int .i64 x1)) (c2 : W.cell? ⟨b, 2, none⟩ = some (.int .i64 x2)) (c3 : W.cell? ⟨b, 3, none⟩ = some (.int .i64 x3)) :
    IsT 1 intCells W (some ⟨b, 0, none⟩) 4 [x0, x1, x2, x3] := by
  refine ⟨rfl, fun _ => ⟨b, 0, rfl, hb, fun j x hx i v hv => ?_⟩⟩
  rcases i with _ | i
  · rcases j with _ | _ | _ | _ | j
    all_goals first | (have h9 := (List.getElem?_eq_some_iff.1 hx).1; simp at h9; omega) | skip
    all_goals obtain rfl := Option.some.inj hx
    all_goals (obtain rfl := Option.some.inj hv; assumption)
  · have h9 := (List.getElem?_eq_some_iff.1 hv).1
    simp [intCells] at h9
theorem answer4 (b1 b2 : Nat) (g0 g1 g2 g3 n0 n1 n2 n3 : Int) (w : World) (h1 : IsT 1 intCells w (some ⟨b1, 0, none⟩) 4 [g0, g1, g2, g3]) (h2 : IsT 1 intCells w (some ⟨b2, 0, none⟩) 4 [n0, n1, n2, n3])
    (hg : ((-1000000 ≤ g0 ∧ g0 ≤ 1000000) ∧ (-1000000 ≤ g1 ∧ g1 ≤ 1000000)) ∧ (-1000000 ≤ g2 ∧ g2 ≤ 1000000) ∧ (-1000000 ≤ g3 ∧ g3 ≤ 1000000))
    (hn : ((-1000000000000000 ≤ n0 ∧ n0 ≤ 1000000000000000) ∧ (-1000000000000000 ≤ n1 ∧ n1 ≤ 1000000000000000)) ∧ (-1000000000000000 ≤ n2 ∧ n2 ≤ 1000000000000000) ∧ (-1000000000000000 ≤ n3 ∧ n3 ≤ 1000000000000000)) :
    Calls Tryz.prog 60 #[.slice (some ⟨b1, 0, none⟩) 4 4, .slice (some ⟨b2, 0, none⟩) 4 4] w (Ret (.int .i64 ((g0 * n0 + g1 * n1 + g2 * n2 + g3 * n3).tdiv 1000)) w) := by
  have h := answer_any _ _ 4 4 _ _ w h1 h2 (fun k => by
    rcases k with _ | _ | _ | _ | k
    · exact hg.1.1
    · exact hg.1.2
    · exact hg.2.1
    · exact hg.2.2
    · simp) (fun k => by
    rcases k with _ | _ | _ | _ | k
    · exact hn.1.1
    · exact hn.1.2
    · exact hn.2.1
    · exact hn.2.2
    · simp)
  have e : dotj (fun k => [g0, g1, g2, g3].getD k 0) (fun k => [n0, n1, n2, n3].getD k 0) 4 = g0 * n0 + g1 * n1 + g2 * n2 + g3 * n3 := by
    show 0 + g0 * n0 + g1 * n1 + g2 * n2 + g3 * n3 = _
    rw [Int.zero_add]
  rwa [e] at h

set_option maxRecDepth 100000 in
set_option maxHeartbeats 8000000 in
theorem wish_any (R : MachR) (M : MachD) (G : Option Addr) (ng cg : Nat) (gs : List GainD) (most y0 y1 gr gz : Int) (s : ShapeD) (w : World) (hM : IsM w R M) (hG : IsT 4 GainD.cells w G ng gs) (hn : ng ≤ 1000000000000000) :
    Calls Tryz.prog 28 #[.agg (machCells R M), .agg #[.slice G ng cg, .int .i64 most], .agg #[.int .i64 y0, .int .i64 y1], .agg #[.int .i64 gr, .int .i64 gz], s.v] w (IntsAt (wishE M gs most y0 y1 gr gz s) (wishT M gs most y0 y1 gr gz s) w) := by
  have HS0 := Lib.hid (fun W (hb : Below w.heap.size w W) => setup_any R M G ng cg gs most W (hM.below hb) (hG.below hb) hn)
  have HY0 := Lib.hid (fun W (hb : Below w.heap.size w W) => mem_any y0 y1 W)
  have HP0 := Lib.hid (fun W (hb : Below w.heap.size w W) => cproved_any gr gz s W)
  unfold wishT wishE
  cases hs : setupB M gs most
  · rw [hs] at HS0
    rw [if_neg (by decide), if_neg (by decide)]
    clear hM hG hs HY0 HP0
    obtain ⟨A, B, Cl, D, la, ca, lb, cb, lc, cl, ld, cd⟩ := R
    obtain ⟨name, coils, shells, limits, ⟨r, z, nr, nz, step⟩, sensors⟩ := M
    obtain ⟨a0, b0, a1, b1, a2, b2, a3, b3, a4, b4, a5, b5, a6, b6, a7, b7⟩ := s
    (try dsimp only at *)
    have HS := Lib.hid (show ∀ W, Below w.heap.size w W → Calls Tryz.prog 30 #[.agg #[.string name, .slice A la ca, .slice B lb cb, .slice Cl lc cl, .int .i64 r, .int .i64 z, .int .i64 nr, .int .i64 nz, .int .i64 step, .slice D ld cd], .agg #[.slice G ng cg, .int .i64 most]] W (Ret (.bool false) W) from HS0.out)
    clear HS0
    show Calls Tryz.prog 28 #[.agg #[.string name, .slice A la ca, .slice B lb cb, .slice Cl lc cl, .int .i64 r, .int .i64 z, .int .i64 nr, .int .i64 nz, .int .i64 step, .slice D ld cd], .agg #[.slice G ng cg, .int .i64 most], .agg #[.int .i64 y0, .int .i64 y1], .agg #[.int .i64 gr, .int .i64 gz], .agg #[.int .i64 a0, .int .i64 b0, .int .i64 a1, .int .i64 b1, .int .i64 a2, .int .i64 b2, .int .i64 a3, .int .i64 b3, .int .i64 a4, .int .i64 b4, .int .i64 a5, .int .i64 b5, .int .i64 a6, .int .i64 b6, .int .i64 a7, .int .i64 b7]] w _
    go_enter Tryz.func28, Tryz.ntmps28
    go_upto_region 1 with (fail)
    have Fm : Hid (RowL (w.heap.size) [.string name, .slice A la ca, .slice B lb cb, .slice Cl lc cl, .int .i64 r, .int .i64 z, .int .i64 nr, .int .i64 nz, .int .i64 step, .slice D ld cd] (((((w.alloc (.cells #[.string name, .slice A la ca, .slice B lb cb, .slice Cl lc cl, .int .i64 r, .int .i64 z, .int .i64 nr, .int .i64 nz, .int .i64 step, .slice D ld cd] 29)).alloc (.cells #[.slice G ng cg, .int .i64 most] 75)).alloc (.cells #[.int .i64 y0, .int .i64 y1] 81)).alloc (.cells #[.int .i64 gr, .int .i64 gz] 78)).alloc (.cells #[.int .i64 a0, .int .i64 b0, .int .i64 a1, .int .i64 b1, .int .i64 a2, .int .i64 b2, .int .i64 a3, .int .i64 b3, .int .i64 a4, .int .i64 b4, .int .i64 a5, .int .i64 b5, .int .i64 a6, .int .i64 b6, .int .i64 a7, .int .i64 b7] 70))) := Lib.hid (by have h := RowL.new w #[.string name, .slice A la ca, .slice B lb cb, .slice Cl lc cl, .int .i64 r, .int .i64 z, .int .i64 nr, .int .i64 nz, .int .i64 step, .slice D ld cd] 29; (try simp only [World.size_alloc] at h); exact ((((h.alloc _).alloc _).alloc _).alloc _))
    have Fx : Hid (RowL (w.heap.size + 1) [.slice G ng cg, .int .i64 most] (((((w.alloc (.cells #[.string name, .slice A la ca, .slice B lb cb, .slice Cl lc cl, .int .i64 r, .int .i64 z, .int .i64 nr, .int .i64 nz, .int .i64 step, .slice D ld cd] 29)).alloc (.cells #[.slice G ng cg, .int .i64 most] 75)).alloc (.cells #[.int .i64 y0, .int .i64 y1] 81)).alloc (.cells #[.int .i64 gr, .int .i64 gz] 78)).alloc (.cells #[.int .i64 a0, .int .i64 b0, .int .i64 a1, .int .i64 b1, .int .i64 a2, .int .i64 b2, .int .i64 a3, .int .i64 b3, .int .i64 a4, .int .i64 b4, .int .i64 a5, .int .i64 b5, .int .i64 a6, .int .i64 b6, .int .i64 a7, .int .i64 b7] 70))) := Lib.hid (by have h := RowL.new (w.alloc (.cells #[.string name, .slice A la ca, .slice B lb cb, .slice Cl lc cl, .int .i64 r, .int .i64 z, .int .i64 nr, .int .i64 nz, .int .i64 step, .slice D ld cd] 29)) #[.slice G ng cg, .int .i64 most] 75; (try simp only [World.size_alloc] at h); exact (((h.alloc _).alloc _).alloc _))
    have Fy : Hid (RowL (w.heap.size + 1 + 1) [.int .i64 y0, .int .i64 y1] (((((w.alloc (.cells #[.string name, .slice A la ca, .slice B lb cb, .slice Cl lc cl, .int .i64 r, .int .i64 z, .int .i64 nr, .int .i64 nz, .int .i64 step, .slice D ld cd] 29)).alloc (.cells #[.slice G ng cg, .int .i64 most] 75)).alloc (.cells #[.int .i64 y0, .int .i64 y1] 81)).alloc (.cells #[.int .i64 gr, .int .i64 gz] 78)).alloc (.cells #[.int .i64 a0, .int .i64 b0, .int .i64 a1, .int .i64 b1, .int .i64 a2, .int .i64 b2, .int .i64 a3, .int .i64 b3, .int .i64 a4, .int .i64 b4, .int .i64 a5, .int .i64 b5, .int .i64 a6, .int .i64 b6, .int .i64 a7, .int .i64 b7] 70))) := Lib.hid (by have h := RowL.new ((w.alloc (.cells #[.string name, .slice A la ca, .slice B lb cb, .slice Cl lc cl, .int .i64 r, .int .i64 z, .int .i64 nr, .int .i64 nz, .int .i64 step, .slice D ld cd] 29)).alloc (.cells #[.slice G ng cg, .int .i64 most] 75)) #[.int .i64 y0, .int .i64 y1] 81; (try simp only [World.size_alloc] at h); exact ((h.alloc _).alloc _))
    have Fg : Hid (RowL (w.heap.size + 1 + 1 + 1) [.int .i64 gr, .int .i64 gz] (((((w.alloc (.cells #[.string name, .slice A la ca, .slice B lb cb, .slice Cl lc cl, .int .i64 r, .int .i64 z, .int .i64 nr, .int .i64 nz, .int .i64 step, .slice D ld cd] 29)).alloc (.cells #[.slice G ng cg, .int .i64 most] 75)).alloc (.cells #[.int .i64 y0, .int .i64 y1] 81)).alloc (.cells #[.int .i64 gr, .int .i64 gz] 78)).alloc (.cells #[.int .i64 a0, .int .i64 b0, .int .i64 a1, .int .i64 b1, .int .i64 a2, .int .i64 b2, .int .i64 a3, .int .i64 b3, .int .i64 a4, .int .i64 b4, .int .i64 a5, .int .i64 b5, .int .i64 a6, .int .i64 b6, .int .i64 a7, .int .i64 b7] 70))) := Lib.hid (by have h := RowL.new (((w.alloc (.cells #[.string name, .slice A la ca, .slice B lb cb, .slice Cl lc cl, .int .i64 r, .int .i64 z, .int .i64 nr, .int .i64 nz, .int .i64 step, .slice D ld cd] 29)).alloc (.cells #[.slice G ng cg, .int .i64 most] 75)).alloc (.cells #[.int .i64 y0, .int .i64 y1] 81)) #[.int .i64 gr, .int .i64 gz] 78; (try simp only [World.size_alloc] at h); exact (h.alloc _))
    have Fs : Hid (RowL (w.heap.size + 1 + 1 + 1 + 1) [.int .i64 a0, .int .i64 b0, .int .i64 a1, .int .i64 b1, .int .i64 a2, .int .i64 b2, .int .i64 a3, .int .i64 b3, .int .i64 a4, .int .i64 b4, .int .i64 a5, .int .i64 b5, .int .i64 a6, .int .i64 b6, .int .i64 a7, .int .i64 b7] (((((w.alloc (.cells #[.string name, .slice A la ca, .slice B lb cb, .slice Cl lc cl, .int .i64 r, .int .i64 z, .int .i64 nr, .int .i64 nz, .int .i64 step, .slice D ld cd] 29)).alloc (.cells #[.slice G ng cg, .int .i64 most] 75)).alloc (.cells #[.int .i64 y0, .int .i64 y1] 81)).alloc (.cells #[.int .i64 gr, .int .i64 gz] 78)).alloc (.cells #[.int .i64 a0, .int .i64 b0, .int .i64 a1, .int .i64 b1, .int .i64 a2, .int .i64 b2, .int .i64 a3, .int .i64 b3, .int .i64 a4, .int .i64 b4, .int .i64 a5, .int .i64 b5, .int .i64 a6, .int .i64 b6, .int .i64 a7, .int .i64 b7] 70))) := Lib.hid (by have h := RowL.new ((((w.alloc (.cells #[.string name, .slice A la ca, .slice B lb cb, .slice Cl lc cl, .int .i64 r, .int .i64 z, .int .i64 nr, .int .i64 nz, .int .i64 step, .slice D ld cd] 29)).alloc (.cells #[.slice G ng cg, .int .i64 most] 75)).alloc (.cells #[.int .i64 y0, .int .i64 y1] 81)).alloc (.cells #[.int .i64 gr, .int .i64 gz] 78)) #[.int .i64 a0, .int .i64 b0, .int .i64 a1, .int .i64 b1, .int .i64 a2, .int .i64 b2, .int .i64 a3, .int .i64 b3, .int .i64 a4, .int .i64 b4, .int .i64 a5, .int .i64 b5, .int .i64 a6, .int .i64 b6, .int .i64 a7, .int .i64 b7] 70; (try simp only [World.size_alloc] at h); exact h)
    have hB0 : Below w.heap.size w (((((w.alloc (.cells #[.string name, .slice A la ca, .slice B lb cb, .slice Cl lc cl, .int .i64 r, .int .i64 z, .int .i64 nr, .int .i64 nz, .int .i64 step, .slice D ld cd] 29)).alloc (.cells #[.slice G ng cg, .int .i64 most] 75)).alloc (.cells #[.int .i64 y0, .int .i64 y1] 81)).alloc (.cells #[.int .i64 gr, .int .i64 gz] 78)).alloc (.cells #[.int .i64 a0, .int .i64 b0, .int .i64 a1, .int .i64 b1, .int .i64 a2, .int .i64 b2, .int .i64 a3, .int .i64 b3, .int .i64 a4, .int .i64 b4, .int .i64 a5, .int .i64 b5, .int .i64 a6, .int .i64 b6, .int .i64 a7, .int .i64 b7] 70)) := by (with_reducible repeat first | exact Below.refl _ _ | assumption | ((first | refine Below.setCell ?_ ?_ _ | refine Below.alloc ?_ ?_ _); rotate_left; exact (by first | omega | (simp; done) | (simp; omega))) | refine Below.drew ?_ | refine Below_drewN ?_ _)
    have sW0 : w.heap.size + 1 + 1 + 1 + 1 < (((((w.alloc (.cells #[.string name, .slice A la ca, .slice B lb cb, .slice Cl lc cl, .int .i64 r, .int .i64 z, .int .i64 nr, .int .i64 nz, .int .i64 step, .slice D ld cd] 29)).alloc (.cells #[.slice G ng cg, .int .i64 most] 75)).alloc (.cells #[.int .i64 y0, .int .i64 y1] 81)).alloc (.cells #[.int .i64 gr, .int .i64 gz] 78)).alloc (.cells #[.int .i64 a0, .int .i64 b0, .int .i64 a1, .int .i64 b1, .int .i64 a2, .int .i64 b2, .int .i64 a3, .int .i64 b3, .int .i64 a4, .int .i64 b4, .int .i64 a5, .int .i64 b5, .int .i64 a6, .int .i64 b6, .int .i64 a7, .int .i64 b7] 70)).heap.size := by simp only [World.size_alloc]; omega
    obtain ⟨W0, hW0⟩ : ∃ W, (((((w.alloc (.cells #[.string name, .slice A la ca, .slice B lb cb, .slice Cl lc cl, .int .i64 r, .int .i64 z, .int .i64 nr, .int .i64 nz, .int .i64 step, .slice D ld cd] 29)).alloc (.cells #[.slice G ng cg, .int .i64 most] 75)).alloc (.cells #[.int .i64 y0, .int .i64 y1] 81)).alloc (.cells #[.int .i64 gr, .int .i64 gz] 78)).alloc (.cells #[.int .i64 a0, .int .i64 b0, .int .i64 a1, .int .i64 b1, .int .i64 a2, .int .i64 b2, .int .i64 a3, .int .i64 b3, .int .i64 a4, .int .i64 b4, .int .i64 a5, .int .i64 b5, .int .i64 a6, .int .i64 b6, .int .i64 a7, .int .i64 b7] 70)) = W := ⟨_, rfl⟩
    rw [hW0] at Fm Fx Fy Fg Fs hB0 sW0 ⊢
    clear hW0
    have m0 := Fm.out.cell 0 (.string name) rfl
    have m1 := Fm.out.cell 1 (.slice A la ca) rfl
    have m2 := Fm.out.cell 2 (.slice B lb cb) rfl
    have m3 := Fm.out.cell 3 (.slice Cl lc cl) rfl
    have m4 := Fm.out.cell 4 (.int .i64 r) rfl
    have m5 := Fm.out.cell 5 (.int .i64 z) rfl
    have m6 := Fm.out.cell 6 (.int .i64 nr) rfl
    have m7 := Fm.out.cell 7 (.int .i64 nz) rfl
    have m8 := Fm.out.cell 8 (.int .i64 step) rfl
    have m9 := Fm.out.cell 9 (.slice D ld cd) rfl
    have x0 := Fx.out.cell 0 (.slice G ng cg) rfl
    have x1 := Fx.out.cell 1 (.int .i64 most) rfl
    have y0 := Fy.out.cell 0 (.int .i64 y0) rfl
    have y1 := Fy.out.cell 1 (.int .i64 y1) rfl
    have g0 := Fg.out.cell 0 (.int .i64 gr) rfl
    have g1 := Fg.out.cell 1 (.int .i64 gz) rfl
    have s0 := Fs.out.cell 0 (.int .i64 a0) rfl
    have s1 := Fs.out.cell 1 (.int .i64 b0) rfl
    have s2 := Fs.out.cell 2 (.int .i64 a1) rfl
    have s3 := Fs.out.cell 3 (.int .i64 b1) rfl
    have s4 := Fs.out.cell 4 (.int .i64 a2) rfl
    have s5 := Fs.out.cell 5 (.int .i64 b2) rfl
    have s6 := Fs.out.cell 6 (.int .i64 a3) rfl
    have s7 := Fs.out.cell 7 (.int .i64 b3) rfl
    have s8 := Fs.out.cell 8 (.int .i64 a4) rfl
    have s9 := Fs.out.cell 9 (.int .i64 b4) rfl
    have s10 := Fs.out.cell 10 (.int .i64 a5) rfl
    have s11 := Fs.out.cell 11 (.int .i64 b5) rfl
    have s12 := Fs.out.cell 12 (.int .i64 a6) rfl
    have s13 := Fs.out.cell 13 (.int .i64 b6) rfl
    have s14 := Fs.out.cell 14 (.int .i64 a7) rfl
    have s15 := Fs.out.cell 15 (.int .i64 b7) rfl
    go_wp2_with fail
    refine (HS.out _ (by (with_reducible repeat first | exact Below.refl _ _ | assumption | ((first | refine Below.setCell ?_ ?_ _ | refine Below.alloc ?_ ?_ _); rotate_left; exact (by first | omega | (simp; done) | (simp; omega))) | refine Below.drew ?_ | refine Below_drewN ?_ _))).mono ?_
    rintro e w1 ⟨rfl, hb⟩
    clear m0 m1 m2 m3 m4 m5 m6 m7 m8 m9 x0 x1 y0 y1 g0 g1 s0 s1 s2 s3 s4 s5 s6 s7 s8 s9 s10 s11 s12 s13 s14 s15
    have Gm := Lib.hid (Fm.out.below hb)
    clear Fm
    have Fm := Lib.hid Gm.out
    clear Gm
    have Gx := Lib.hid (Fx.out.below hb)
    clear Fx
    have Fx := Lib.hid Gx.out
    clear Gx
    have Gy := Lib.hid (Fy.out.below hb)
    clear Fy
    have Fy := Lib.hid Gy.out
    clear Gy
    have Gg := Lib.hid (Fg.out.below hb)
    clear Fg
    have Fg := Lib.hid Gg.out
    clear Gg
    have Gs := Lib.hid (Fs.out.below hb)
    clear Fs
    have Fs := Lib.hid Gs.out
    clear Gs
    have m0 := Fm.out.cell 0 (.string name) rfl
    have m1 := Fm.out.cell 1 (.slice A la ca) rfl
    have m2 := Fm.out.cell 2 (.slice B lb cb) rfl
    have m3 := Fm.out.cell 3 (.slice Cl lc cl) rfl
    have m4 := Fm.out.cell 4 (.int .i64 r) rfl
    have m5 := Fm.out.cell 5 (.int .i64 z) rfl
    have m6 := Fm.out.cell 6 (.int .i64 nr) rfl
    have m7 := Fm.out.cell 7 (.int .i64 nz) rfl
    have m8 := Fm.out.cell 8 (.int .i64 step) rfl
    have m9 := Fm.out.cell 9 (.slice D ld cd) rfl
    have x0 := Fx.out.cell 0 (.slice G ng cg) rfl
    have x1 := Fx.out.cell 1 (.int .i64 most) rfl
    have y0 := Fy.out.cell 0 (.int .i64 y0) rfl
    have y1 := Fy.out.cell 1 (.int .i64 y1) rfl
    have g0 := Fg.out.cell 0 (.int .i64 gr) rfl
    have g1 := Fg.out.cell 1 (.int .i64 gz) rfl
    have s0 := Fs.out.cell 0 (.int .i64 a0) rfl
    have s1 := Fs.out.cell 1 (.int .i64 b0) rfl
    have s2 := Fs.out.cell 2 (.int .i64 a1) rfl
    have s3 := Fs.out.cell 3 (.int .i64 b1) rfl
    have s4 := Fs.out.cell 4 (.int .i64 a2) rfl
    have s5 := Fs.out.cell 5 (.int .i64 b2) rfl
    have s6 := Fs.out.cell 6 (.int .i64 a3) rfl
    have s7 := Fs.out.cell 7 (.int .i64 b3) rfl
    have s8 := Fs.out.cell 8 (.int .i64 a4) rfl
    have s9 := Fs.out.cell 9 (.int .i64 b4) rfl
    have s10 := Fs.out.cell 10 (.int .i64 a5) rfl
    have s11 := Fs.out.cell 11 (.int .i64 b5) rfl
    have s12 := Fs.out.cell 12 (.int .i64 a6) rfl
    have s13 := Fs.out.cell 13 (.int .i64 b6) rfl
    have s14 := Fs.out.cell 14 (.int .i64 a7) rfl
    have s15 := Fs.out.cell 15 (.int .i64 b7) rfl
    have hBw1 := hB0.trans (hb.mono hB0.size)
    clear hb
    go_wp2_with fail
    go_ret2
    exact IntsAt.nil (by (with_reducible repeat first | exact Below.refl _ _ | assumption | ((first | refine Below.setCell ?_ ?_ _ | refine Below.alloc ?_ ?_ _); rotate_left; exact (by first | omega | (simp; done) | (simp; omega))) | refine Below.drew ?_ | refine Below_drewN ?_ _))
  rw [hs] at HS0
  simp only [if_true]
  obtain ⟨hc, hgl, hst, hm0, hm1⟩ := setupB_parts hs
  cases hy : memB y0 y1
  · rw [hy] at HY0
    simp only [if_false, Bool.false_eq_true]
    rw [if_neg (by decide)]
    clear hM hG hs HP0 hc hgl hst hy
    obtain ⟨A, B, Cl, D, la, ca, lb, cb, lc, cl, ld, cd⟩ := R
    obtain ⟨name, coils, shells, limits, ⟨r, z, nr, nz, step⟩, sensors⟩ := M
    obtain ⟨a0, b0, a1, b1, a2, b2, a3, b3, a4, b4, a5, b5, a6, b6, a7, b7⟩ := s
    (try dsimp only at *)
    have HS := Lib.hid (show ∀ W, Below w.heap.size w W → Calls Tryz.prog 30 #[.agg #[.string name, .slice A la ca, .slice B lb cb, .slice Cl lc cl, .int .i64 r, .int .i64 z, .int .i64 nr, .int .i64 nz, .int .i64 step, .slice D ld cd], .agg #[.slice G ng cg, .int .i64 most]] W (Ret (.bool true) W) from HS0.out)
    clear HS0
    show Calls Tryz.prog 28 #[.agg #[.string name, .slice A la ca, .slice B lb cb, .slice Cl lc cl, .int .i64 r, .int .i64 z, .int .i64 nr, .int .i64 nz, .int .i64 step, .slice D ld cd], .agg #[.slice G ng cg, .int .i64 most], .agg #[.int .i64 y0, .int .i64 y1], .agg #[.int .i64 gr, .int .i64 gz], .agg #[.int .i64 a0, .int .i64 b0, .int .i64 a1, .int .i64 b1, .int .i64 a2, .int .i64 b2, .int .i64 a3, .int .i64 b3, .int .i64 a4, .int .i64 b4, .int .i64 a5, .int .i64 b5, .int .i64 a6, .int .i64 b6, .int .i64 a7, .int .i64 b7]] w _
    go_enter Tryz.func28, Tryz.ntmps28
    go_upto_region 1 with (fail)
    have Fm : Hid (RowL (w.heap.size) [.string name, .slice A la ca, .slice B lb cb, .slice Cl lc cl, .int .i64 r, .int .i64 z, .int .i64 nr, .int .i64 nz, .int .i64 step, .slice D ld cd] (((((w.alloc (.cells #[.string name, .slice A la ca, .slice B lb cb, .slice Cl lc cl, .int .i64 r, .int .i64 z, .int .i64 nr, .int .i64 nz, .int .i64 step, .slice D ld cd] 29)).alloc (.cells #[.slice G ng cg, .int .i64 most] 75)).alloc (.cells #[.int .i64 y0, .int .i64 y1] 81)).alloc (.cells #[.int .i64 gr, .int .i64 gz] 78)).alloc (.cells #[.int .i64 a0, .int .i64 b0, .int .i64 a1, .int .i64 b1, .int .i64 a2, .int .i64 b2, .int .i64 a3, .int .i64 b3, .int .i64 a4, .int .i64 b4, .int .i64 a5, .int .i64 b5, .int .i64 a6, .int .i64 b6, .int .i64 a7, .int .i64 b7] 70))) := Lib.hid (by have h := RowL.new w #[.string name, .slice A la ca, .slice B lb cb, .slice Cl lc cl, .int .i64 r, .int .i64 z, .int .i64 nr, .int .i64 nz, .int .i64 step, .slice D ld cd] 29; (try simp only [World.size_alloc] at h); exact ((((h.alloc _).alloc _).alloc _).alloc _))
    have Fx : Hid (RowL (w.heap.size + 1) [.slice G ng cg, .int .i64 most] (((((w.alloc (.cells #[.string name, .slice A la ca, .slice B lb cb, .slice Cl lc cl, .int .i64 r, .int .i64 z, .int .i64 nr, .int .i64 nz, .int .i64 step, .slice D ld cd] 29)).alloc (.cells #[.slice G ng cg, .int .i64 most] 75)).alloc (.cells #[.int .i64 y0, .int .i64 y1] 81)).alloc (.cells #[.int .i64 gr, .int .i64 gz] 78)).alloc (.cells #[.int .i64 a0, .int .i64 b0, .int .i64 a1, .int .i64 b1, .int .i64 a2, .int .i64 b2, .int .i64 a3, .int .i64 b3, .int .i64 a4, .int .i64 b4, .int .i64 a5, .int .i64 b5, .int .i64 a6, .int .i64 b6, .int .i64 a7, .int .i64 b7] 70))) := Lib.hid (by have h := RowL.new (w.alloc (.cells #[.string name, .slice A la ca, .slice B lb cb, .slice Cl lc cl, .int .i64 r, .int .i64 z, .int .i64 nr, .int .i64 nz, .int .i64 step, .slice D ld cd] 29)) #[.slice G ng cg, .int .i64 most] 75; (try simp only [World.size_alloc] at h); exact (((h.alloc _).alloc _).alloc _))
    have Fy : Hid (RowL (w.heap.size + 1 + 1) [.int .i64 y0, .int .i64 y1] (((((w.alloc (.cells #[.string name, .slice A la ca, .slice B lb cb, .slice Cl lc cl, .int .i64 r, .int .i64 z, .int .i64 nr, .int .i64 nz, .int .i64 step, .slice D ld cd] 29)).alloc (.cells #[.slice G ng cg, .int .i64 most] 75)).alloc (.cells #[.int .i64 y0, .int .i64 y1] 81)).alloc (.cells #[.int .i64 gr, .int .i64 gz] 78)).alloc (.cells #[.int .i64 a0, .int .i64 b0, .int .i64 a1, .int .i64 b1, .int .i64 a2, .int .i64 b2, .int .i64 a3, .int .i64 b3, .int .i64 a4, .int .i64 b4, .int .i64 a5, .int .i64 b5, .int .i64 a6, .int .i64 b6, .int .i64 a7, .int .i64 b7] 70))) := Lib.hid (by have h := RowL.new ((w.alloc (.cells #[.string name, .slice A la ca, .slice B lb cb, .slice Cl lc cl, .int .i64 r, .int .i64 z, .int .i64 nr, .int .i64 nz, .int .i64 step, .slice D ld cd] 29)).alloc (.cells #[.slice G ng cg, .int .i64 most] 75)) #[.int .i64 y0, .int .i64 y1] 81; (try simp only [World.size_alloc] at h); exact ((h.alloc _).alloc _))
    have Fg : Hid (RowL (w.heap.size + 1 + 1 + 1) [.int .i64 gr, .int .i64 gz] (((((w.alloc (.cells #[.string name, .slice A la ca, .slice B lb cb, .slice Cl lc cl, .int .i64 r, .int .i64 z, .int .i64 nr, .int .i64 nz, .int .i64 step, .slice D ld cd] 29)).alloc (.cells #[.slice G ng cg, .int .i64 most] 75)).alloc (.cells #[.int .i64 y0, .int .i64 y1] 81)).alloc (.cells #[.int .i64 gr, .int .i64 gz] 78)).alloc (.cells #[.int .i64 a0, .int .i64 b0, .int .i64 a1, .int .i64 b1, .int .i64 a2, .int .i64 b2, .int .i64 a3, .int .i64 b3, .int .i64 a4, .int .i64 b4, .int .i64 a5, .int .i64 b5, .int .i64 a6, .int .i64 b6, .int .i64 a7, .int .i64 b7] 70))) := Lib.hid (by have h := RowL.new (((w.alloc (.cells #[.string name, .slice A la ca, .slice B lb cb, .slice Cl lc cl, .int .i64 r, .int .i64 z, .int .i64 nr, .int .i64 nz, .int .i64 step, .slice D ld cd] 29)).alloc (.cells #[.slice G ng cg, .int .i64 most] 75)).alloc (.cells #[.int .i64 y0, .int .i64 y1] 81)) #[.int .i64 gr, .int .i64 gz] 78; (try simp only [World.size_alloc] at h); exact (h.alloc _))
    have Fs : Hid (RowL (w.heap.size + 1 + 1 + 1 + 1) [.int .i64 a0, .int .i64 b0, .int .i64 a1, .int .i64 b1, .int .i64 a2, .int .i64 b2, .int .i64 a3, .int .i64 b3, .int .i64 a4, .int .i64 b4, .int .i64 a5, .int .i64 b5, .int .i64 a6, .int .i64 b6, .int .i64 a7, .int .i64 b7] (((((w.alloc (.cells #[.string name, .slice A la ca, .slice B lb cb, .slice Cl lc cl, .int .i64 r, .int .i64 z, .int .i64 nr, .int .i64 nz, .int .i64 step, .slice D ld cd] 29)).alloc (.cells #[.slice G ng cg, .int .i64 most] 75)).alloc (.cells #[.int .i64 y0, .int .i64 y1] 81)).alloc (.cells #[.int .i64 gr, .int .i64 gz] 78)).alloc (.cells #[.int .i64 a0, .int .i64 b0, .int .i64 a1, .int .i64 b1, .int .i64 a2, .int .i64 b2, .int .i64 a3, .int .i64 b3, .int .i64 a4, .int .i64 b4, .int .i64 a5, .int .i64 b5, .int .i64 a6, .int .i64 b6, .int .i64 a7, .int .i64 b7] 70))) := Lib.hid (by have h := RowL.new ((((w.alloc (.cells #[.string name, .slice A la ca, .slice B lb cb, .slice Cl lc cl, .int .i64 r, .int .i64 z, .int .i64 nr, .int .i64 nz, .int .i64 step, .slice D ld cd] 29)).alloc (.cells #[.slice G ng cg, .int .i64 most] 75)).alloc (.cells #[.int .i64 y0, .int .i64 y1] 81)).alloc (.cells #[.int .i64 gr, .int .i64 gz] 78)) #[.int .i64 a0, .int .i64 b0, .int .i64 a1, .int .i64 b1, .int .i64 a2, .int .i64 b2, .int .i64 a3, .int .i64 b3, .int .i64 a4, .int .i64 b4, .int .i64 a5, .int .i64 b5, .int .i64 a6, .int .i64 b6, .int .i64 a7, .int .i64 b7] 70; (try simp only [World.size_alloc] at h); exact h)
    have hB0 : Below w.heap.size w (((((w.alloc (.cells #[.string name, .slice A la ca, .slice B lb cb, .slice Cl lc cl, .int .i64 r, .int .i64 z, .int .i64 nr, .int .i64 nz, .int .i64 step, .slice D ld cd] 29)).alloc (.cells #[.slice G ng cg, .int .i64 most] 75)).alloc (.cells #[.int .i64 y0, .int .i64 y1] 81)).alloc (.cells #[.int .i64 gr, .int .i64 gz] 78)).alloc (.cells #[.int .i64 a0, .int .i64 b0, .int .i64 a1, .int .i64 b1, .int .i64 a2, .int .i64 b2, .int .i64 a3, .int .i64 b3, .int .i64 a4, .int .i64 b4, .int .i64 a5, .int .i64 b5, .int .i64 a6, .int .i64 b6, .int .i64 a7, .int .i64 b7] 70)) := by (with_reducible repeat first | exact Below.refl _ _ | assumption | ((first | refine Below.setCell ?_ ?_ _ | refine Below.alloc ?_ ?_ _); rotate_left; exact (by first | omega | (simp; done) | (simp; omega))) | refine Below.drew ?_ | refine Below_drewN ?_ _)
    have sW0 : w.heap.size + 1 + 1 + 1 + 1 < (((((w.alloc (.cells #[.string name, .slice A la ca, .slice B lb cb, .slice Cl lc cl, .int .i64 r, .int .i64 z, .int .i64 nr, .int .i64 nz, .int .i64 step, .slice D ld cd] 29)).alloc (.cells #[.slice G ng cg, .int .i64 most] 75)).alloc (.cells #[.int .i64 y0, .int .i64 y1] 81)).alloc (.cells #[.int .i64 gr, .int .i64 gz] 78)).alloc (.cells #[.int .i64 a0, .int .i64 b0, .int .i64 a1, .int .i64 b1, .int .i64 a2, .int .i64 b2, .int .i64 a3, .int .i64 b3, .int .i64 a4, .int .i64 b4, .int .i64 a5, .int .i64 b5, .int .i64 a6, .int .i64 b6, .int .i64 a7, .int .i64 b7] 70)).heap.size := by simp only [World.size_alloc]; omega
    obtain ⟨W0, hW0⟩ : ∃ W, (((((w.alloc (.cells #[.string name, .slice A la ca, .slice B lb cb, .slice Cl lc cl, .int .i64 r, .int .i64 z, .int .i64 nr, .int .i64 nz, .int .i64 step, .slice D ld cd] 29)).alloc (.cells #[.slice G ng cg, .int .i64 most] 75)).alloc (.cells #[.int .i64 y0, .int .i64 y1] 81)).alloc (.cells #[.int .i64 gr, .int .i64 gz] 78)).alloc (.cells #[.int .i64 a0, .int .i64 b0, .int .i64 a1, .int .i64 b1, .int .i64 a2, .int .i64 b2, .int .i64 a3, .int .i64 b3, .int .i64 a4, .int .i64 b4, .int .i64 a5, .int .i64 b5, .int .i64 a6, .int .i64 b6, .int .i64 a7, .int .i64 b7] 70)) = W := ⟨_, rfl⟩
    rw [hW0] at Fm Fx Fy Fg Fs hB0 sW0 ⊢
    clear hW0
    have m0 := Fm.out.cell 0 (.string name) rfl
    have m1 := Fm.out.cell 1 (.slice A la ca) rfl
    have m2 := Fm.out.cell 2 (.slice B lb cb) rfl
    have m3 := Fm.out.cell 3 (.slice Cl lc cl) rfl
    have m4 := Fm.out.cell 4 (.int .i64 r) rfl
    have m5 := Fm.out.cell 5 (.int .i64 z) rfl
    have m6 := Fm.out.cell 6 (.int .i64 nr) rfl
    have m7 := Fm.out.cell 7 (.int .i64 nz) rfl
    have m8 := Fm.out.cell 8 (.int .i64 step) rfl
    have m9 := Fm.out.cell 9 (.slice D ld cd) rfl
    have x0 := Fx.out.cell 0 (.slice G ng cg) rfl
    have x1 := Fx.out.cell 1 (.int .i64 most) rfl
    have y0 := Fy.out.cell 0 (.int .i64 y0) rfl
    have y1 := Fy.out.cell 1 (.int .i64 y1) rfl
    have g0 := Fg.out.cell 0 (.int .i64 gr) rfl
    have g1 := Fg.out.cell 1 (.int .i64 gz) rfl
    have s0 := Fs.out.cell 0 (.int .i64 a0) rfl
    have s1 := Fs.out.cell 1 (.int .i64 b0) rfl
    have s2 := Fs.out.cell 2 (.int .i64 a1) rfl
    have s3 := Fs.out.cell 3 (.int .i64 b1) rfl
    have s4 := Fs.out.cell 4 (.int .i64 a2) rfl
    have s5 := Fs.out.cell 5 (.int .i64 b2) rfl
    have s6 := Fs.out.cell 6 (.int .i64 a3) rfl
    have s7 := Fs.out.cell 7 (.int .i64 b3) rfl
    have s8 := Fs.out.cell 8 (.int .i64 a4) rfl
    have s9 := Fs.out.cell 9 (.int .i64 b4) rfl
    have s10 := Fs.out.cell 10 (.int .i64 a5) rfl
    have s11 := Fs.out.cell 11 (.int .i64 b5) rfl
    have s12 := Fs.out.cell 12 (.int .i64 a6) rfl
    have s13 := Fs.out.cell 13 (.int .i64 b6) rfl
    have s14 := Fs.out.cell 14 (.int .i64 a7) rfl
    have s15 := Fs.out.cell 15 (.int .i64 b7) rfl
    go_wp2_with fail
    refine (HS.out _ (by (with_reducible repeat first | exact Below.refl _ _ | assumption | ((first | refine Below.setCell ?_ ?_ _ | refine Below.alloc ?_ ?_ _); rotate_left; exact (by first | omega | (simp; done) | (simp; omega))) | refine Below.drew ?_ | refine Below_drewN ?_ _))).mono ?_
    rintro e w1 ⟨rfl, hb⟩
    clear m0 m1 m2 m3 m4 m5 m6 m7 m8 m9 x0 x1 y0 y1 g0 g1 s0 s1 s2 s3 s4 s5 s6 s7 s8 s9 s10 s11 s12 s13 s14 s15
    have Gm := Lib.hid (Fm.out.below hb)
    clear Fm
    have Fm := Lib.hid Gm.out
    clear Gm
    have Gx := Lib.hid (Fx.out.below hb)
    clear Fx
    have Fx := Lib.hid Gx.out
    clear Gx
    have Gy := Lib.hid (Fy.out.below hb)
    clear Fy
    have Fy := Lib.hid Gy.out
    clear Gy
    have Gg := Lib.hid (Fg.out.below hb)
    clear Fg
    have Fg := Lib.hid Gg.out
    clear Gg
    have Gs := Lib.hid (Fs.out.below hb)
    clear Fs
    have Fs := Lib.hid Gs.out
    clear Gs
    have m0 := Fm.out.cell 0 (.string name) rfl
    have m1 := Fm.out.cell 1 (.slice A la ca) rfl
    have m2 := Fm.out.cell 2 (.slice B lb cb) rfl
    have m3 := Fm.out.cell 3 (.slice Cl lc cl) rfl
    have m4 := Fm.out.cell 4 (.int .i64 r) rfl
    have m5 := Fm.out.cell 5 (.int .i64 z) rfl
    have m6 := Fm.out.cell 6 (.int .i64 nr) rfl
    have m7 := Fm.out.cell 7 (.int .i64 nz) rfl
    have m8 := Fm.out.cell 8 (.int .i64 step) rfl
    have m9 := Fm.out.cell 9 (.slice D ld cd) rfl
    have x0 := Fx.out.cell 0 (.slice G ng cg) rfl
    have x1 := Fx.out.cell 1 (.int .i64 most) rfl
    have y0 := Fy.out.cell 0 (.int .i64 y0) rfl
    have y1 := Fy.out.cell 1 (.int .i64 y1) rfl
    have g0 := Fg.out.cell 0 (.int .i64 gr) rfl
    have g1 := Fg.out.cell 1 (.int .i64 gz) rfl
    have s0 := Fs.out.cell 0 (.int .i64 a0) rfl
    have s1 := Fs.out.cell 1 (.int .i64 b0) rfl
    have s2 := Fs.out.cell 2 (.int .i64 a1) rfl
    have s3 := Fs.out.cell 3 (.int .i64 b1) rfl
    have s4 := Fs.out.cell 4 (.int .i64 a2) rfl
    have s5 := Fs.out.cell 5 (.int .i64 b2) rfl
    have s6 := Fs.out.cell 6 (.int .i64 a3) rfl
    have s7 := Fs.out.cell 7 (.int .i64 b3) rfl
    have s8 := Fs.out.cell 8 (.int .i64 a4) rfl
    have s9 := Fs.out.cell 9 (.int .i64 b4) rfl
    have s10 := Fs.out.cell 10 (.int .i64 a5) rfl
    have s11 := Fs.out.cell 11 (.int .i64 b5) rfl
    have s12 := Fs.out.cell 12 (.int .i64 a6) rfl
    have s13 := Fs.out.cell 13 (.int .i64 b6) rfl
    have s14 := Fs.out.cell 14 (.int .i64 a7) rfl
    have s15 := Fs.out.cell 15 (.int .i64 b7) rfl
    have hBw1 := hB0.trans (hb.mono hB0.size)
    clear hb
    go_wp2_with fail
    refine (HY0.out _ (by (with_reducible repeat first | exact Below.refl _ _ | assumption | ((first | refine Below.setCell ?_ ?_ _ | refine Below.alloc ?_ ?_ _); rotate_left; exact (by first | omega | (simp; done) | (simp; omega))) | refine Below.drew ?_ | refine Below_drewN ?_ _))).mono ?_
    rintro e w2 ⟨rfl, hb⟩
    clear m0 m1 m2 m3 m4 m5 m6 m7 m8 m9 x0 x1 y0 y1 g0 g1 s0 s1 s2 s3 s4 s5 s6 s7 s8 s9 s10 s11 s12 s13 s14 s15
    have Gm := Lib.hid (Fm.out.below hb)
    clear Fm
    have Fm := Lib.hid Gm.out
    clear Gm
    have Gx := Lib.hid (Fx.out.below hb)
    clear Fx
    have Fx := Lib.hid Gx.out
    clear Gx
    have Gy := Lib.hid (Fy.out.below hb)
    clear Fy
    have Fy := Lib.hid Gy.out
    clear Gy
    have Gg := Lib.hid (Fg.out.below hb)
    clear Fg
    have Fg := Lib.hid Gg.out
    clear Gg
    have Gs := Lib.hid (Fs.out.below hb)
    clear Fs
    have Fs := Lib.hid Gs.out
    clear Gs
    have m0 := Fm.out.cell 0 (.string name) rfl
    have m1 := Fm.out.cell 1 (.slice A la ca) rfl
    have m2 := Fm.out.cell 2 (.slice B lb cb) rfl
    have m3 := Fm.out.cell 3 (.slice Cl lc cl) rfl
    have m4 := Fm.out.cell 4 (.int .i64 r) rfl
    have m5 := Fm.out.cell 5 (.int .i64 z) rfl
    have m6 := Fm.out.cell 6 (.int .i64 nr) rfl
    have m7 := Fm.out.cell 7 (.int .i64 nz) rfl
    have m8 := Fm.out.cell 8 (.int .i64 step) rfl
    have m9 := Fm.out.cell 9 (.slice D ld cd) rfl
    have x0 := Fx.out.cell 0 (.slice G ng cg) rfl
    have x1 := Fx.out.cell 1 (.int .i64 most) rfl
    have y0 := Fy.out.cell 0 (.int .i64 y0) rfl
    have y1 := Fy.out.cell 1 (.int .i64 y1) rfl
    have g0 := Fg.out.cell 0 (.int .i64 gr) rfl
    have g1 := Fg.out.cell 1 (.int .i64 gz) rfl
    have s0 := Fs.out.cell 0 (.int .i64 a0) rfl
    have s1 := Fs.out.cell 1 (.int .i64 b0) rfl
    have s2 := Fs.out.cell 2 (.int .i64 a1) rfl
    have s3 := Fs.out.cell 3 (.int .i64 b1) rfl
    have s4 := Fs.out.cell 4 (.int .i64 a2) rfl
    have s5 := Fs.out.cell 5 (.int .i64 b2) rfl
    have s6 := Fs.out.cell 6 (.int .i64 a3) rfl
    have s7 := Fs.out.cell 7 (.int .i64 b3) rfl
    have s8 := Fs.out.cell 8 (.int .i64 a4) rfl
    have s9 := Fs.out.cell 9 (.int .i64 b4) rfl
    have s10 := Fs.out.cell 10 (.int .i64 a5) rfl
    have s11 := Fs.out.cell 11 (.int .i64 b5) rfl
    have s12 := Fs.out.cell 12 (.int .i64 a6) rfl
    have s13 := Fs.out.cell 13 (.int .i64 b6) rfl
    have s14 := Fs.out.cell 14 (.int .i64 a7) rfl
    have s15 := Fs.out.cell 15 (.int .i64 b7) rfl
    have hBw2 := hBw1.trans (hb.mono hBw1.size)
    clear hb
    go_wp2_with fail
    go_ret2
    exact IntsAt.nil (by (with_reducible repeat first | exact Below.refl _ _ | assumption | ((first | refine Below.setCell ?_ ?_ _ | refine Below.alloc ?_ ?_ _); rotate_left; exact (by first | omega | (simp; done) | (simp; omega))) | refine Below.drew ?_ | refine Below_drewN ?_ _))
  rw [hy] at HY0
  simp only [if_true]
  have hyb := hy
  unfold memB at hyb
  rw [Bool.and_eq_true] at hyb
  have hy0 := wthn_iff.1 hyb.1
  have hy1 := wthn_iff.1 hyb.2
  clear hyb hy hs
  generalize errL gr gz s = U at *
  obtain ⟨p0, q0, p1, q1, E⟩ := U
  dsimp only at *
  have pr := provedL_in p0 q0
  have pz := provedL_in p1 q1
  generalize provedL p0 q0 = r1 at *
  generalize provedL p1 q1 = z1 at *
  by_cases hE : E = 0
  rotate_left
  · have dE : (E != 0) = true := by rw [bne_iff_ne]; exact hE
    rw [if_neg hE]
    clear hM hG hc hgl hst hE pr pz hy0 hy1
    obtain ⟨A, B, Cl, D, la, ca, lb, cb, lc, cl, ld, cd⟩ := R
    obtain ⟨name, coils, shells, limits, ⟨r, z, nr, nz, step⟩, sensors⟩ := M
    obtain ⟨a0, b0, a1, b1, a2, b2, a3, b3, a4, b4, a5, b5, a6, b6, a7, b7⟩ := s
    (try dsimp only at *)
    have HS := Lib.hid (show ∀ W, Below w.heap.size w W → Calls Tryz.prog 30 #[.agg #[.string name, .slice A la ca, .slice B lb cb, .slice Cl lc cl, .int .i64 r, .int .i64 z, .int .i64 nr, .int .i64 nz, .int .i64 step, .slice D ld cd], .agg #[.slice G ng cg, .int .i64 most]] W (Ret (.bool true) W) from HS0.out)
    have HP := Lib.hid (show ∀ W, Below w.heap.size w W → Calls Tryz.prog 58 #[.agg #[.int .i64 gr, .int .i64 gz], .agg #[.int .i64 a0, .int .i64 b0, .int .i64 a1, .int .i64 b1, .int .i64 a2, .int .i64 b2, .int .i64 a3, .int .i64 b3, .int .i64 a4, .int .i64 b4, .int .i64 a5, .int .i64 b5, .int .i64 a6, .int .i64 b6, .int .i64 a7, .int .i64 b7]] W (Ret (.tuple #[.int .i64 r1, .int .i64 z1, .int .i64 E]) W) from HP0.out)
    clear HS0 HP0
    show Calls Tryz.prog 28 #[.agg #[.string name, .slice A la ca, .slice B lb cb, .slice Cl lc cl, .int .i64 r, .int .i64 z, .int .i64 nr, .int .i64 nz, .int .i64 step, .slice D ld cd], .agg #[.slice G ng cg, .int .i64 most], .agg #[.int .i64 y0, .int .i64 y1], .agg #[.int .i64 gr, .int .i64 gz], .agg #[.int .i64 a0, .int .i64 b0, .int .i64 a1, .int .i64 b1, .int .i64 a2, .int .i64 b2, .int .i64 a3, .int .i64 b3, .int .i64 a4, .int .i64 b4, .int .i64 a5, .int .i64 b5, .int .i64 a6, .int .i64 b6, .int .i64 a7, .int .i64 b7]] w _
    go_enter Tryz.func28, Tryz.ntmps28
    go_upto_region 1 with (fail)
    have Fm : Hid (RowL (w.heap.size) [.string name, .slice A la ca, .slice B lb cb, .slice Cl lc cl, .int .i64 r, .int .i64 z, .int .i64 nr, .int .i64 nz, .int .i64 step, .slice D ld cd] (((((w.alloc (.cells #[.string name, .slice A la ca, .slice B lb cb, .slice Cl lc cl, .int .i64 r, .int .i64 z, .int .i64 nr, .int .i64 nz, .int .i64 step, .slice D ld cd] 29)).alloc (.cells #[.slice G ng cg, .int .i64 most] 75)).alloc (.cells #[.int .i64 y0, .int .i64 y1] 81)).alloc (.cells #[.int .i64 gr, .int .i64 gz] 78)).alloc (.cells #[.int .i64 a0, .int .i64 b0, .int .i64 a1, .int .i64 b1, .int .i64 a2, .int .i64 b2, .int .i64 a3, .int .i64 b3, .int .i64 a4, .int .i64 b4, .int .i64 a5, .int .i64 b5, .int .i64 a6, .int .i64 b6, .int .i64 a7, .int .i64 b7] 70))) := Lib.hid (by have h := RowL.new w #[.string name, .slice A la ca, .slice B lb cb, .slice Cl lc cl, .int .i64 r, .int .i64 z, .int .i64 nr, .int .i64 nz, .int .i64 step, .slice D ld cd] 29; (try simp only [World.size_alloc] at h); exact ((((h.alloc _).alloc _).alloc _).alloc _))
    have Fx : Hid (RowL (w.heap.size + 1) [.slice G ng cg, .int .i64 most] (((((w.alloc (.cells #[.string name, .slice A la ca, .slice B lb cb, .slice Cl lc cl, .int .i64 r, .int .i64 z, .int .i64 nr, .int .i64 nz, .int .i64 step, .slice D ld cd] 29)).alloc (.cells #[.slice G ng cg, .int .i64 most] 75)).alloc (.cells #[.int .i64 y0, .int .i64 y1] 81)).alloc (.cells #[.int .i64 gr, .int .i64 gz] 78)).alloc (.cells #[.int .i64 a0, .int .i64 b0, .int .i64 a1, .int .i64 b1, .int .i64 a2, .int .i64 b2, .int .i64 a3, .int .i64 b3, .int .i64 a4, .int .i64 b4, .int .i64 a5, .int .i64 b5, .int .i64 a6, .int .i64 b6, .int .i64 a7, .int .i64 b7] 70))) := Lib.hid (by have h := RowL.new (w.alloc (.cells #[.string name, .slice A la ca, .slice B lb cb, .slice Cl lc cl, .int .i64 r, .int .i64 z, .int .i64 nr, .int .i64 nz, .int .i64 step, .slice D ld cd] 29)) #[.slice G ng cg, .int .i64 most] 75; (try simp only [World.size_alloc] at h); exact (((h.alloc _).alloc _).alloc _))
    have Fy : Hid (RowL (w.heap.size + 1 + 1) [.int .i64 y0, .int .i64 y1] (((((w.alloc (.cells #[.string name, .slice A la ca, .slice B lb cb, .slice Cl lc cl, .int .i64 r, .int .i64 z, .int .i64 nr, .int .i64 nz, .int .i64 step, .slice D ld cd] 29)).alloc (.cells #[.slice G ng cg, .int .i64 most] 75)).alloc (.cells #[.int .i64 y0, .int .i64 y1] 81)).alloc (.cells #[.int .i64 gr, .int .i64 gz] 78)).alloc (.cells #[.int .i64 a0, .int .i64 b0, .int .i64 a1, .int .i64 b1, .int .i64 a2, .int .i64 b2, .int .i64 a3, .int .i64 b3, .int .i64 a4, .int .i64 b4, .int .i64 a5, .int .i64 b5, .int .i64 a6, .int .i64 b6, .int .i64 a7, .int .i64 b7] 70))) := Lib.hid (by have h := RowL.new ((w.alloc (.cells #[.string name, .slice A la ca, .slice B lb cb, .slice Cl lc cl, .int .i64 r, .int .i64 z, .int .i64 nr, .int .i64 nz, .int .i64 step, .slice D ld cd] 29)).alloc (.cells #[.slice G ng cg, .int .i64 most] 75)) #[.int .i64 y0, .int .i64 y1] 81; (try simp only [World.size_alloc] at h); exact ((h.alloc _).alloc _))
    have Fg : Hid (RowL (w.heap.size + 1 + 1 + 1) [.int .i64 gr, .int .i64 gz] (((((w.alloc (.cells #[.string name, .slice A la ca, .slice B lb cb, .slice Cl lc cl, .int .i64 r, .int .i64 z, .int .i64 nr, .int .i64 nz, .int .i64 step, .slice D ld cd] 29)).alloc (.cells #[.slice G ng cg, .int .i64 most] 75)).alloc (.cells #[.int .i64 y0, .int .i64 y1] 81)).alloc (.cells #[.int .i64 gr, .int .i64 gz] 78)).alloc (.cells #[.int .i64 a0, .int .i64 b0, .int .i64 a1, .int .i64 b1, .int .i64 a2, .int .i64 b2, .int .i64 a3, .int .i64 b3, .int .i64 a4, .int .i64 b4, .int .i64 a5, .int .i64 b5, .int .i64 a6, .int .i64 b6, .int .i64 a7, .int .i64 b7] 70))) := Lib.hid (by have h := RowL.new (((w.alloc (.cells #[.string name, .slice A la ca, .slice B lb cb, .slice Cl lc cl, .int .i64 r, .int .i64 z, .int .i64 nr, .int .i64 nz, .int .i64 step, .slice D ld cd] 29)).alloc (.cells #[.slice G ng cg, .int .i64 most] 75)).alloc (.cells #[.int .i64 y0, .int .i64 y1] 81)) #[.int .i64 gr, .int .i64 gz] 78; (try simp only [World.size_alloc] at h); exact (h.alloc _))
    have Fs : Hid (RowL (w.heap.size + 1 + 1 + 1 + 1) [.int .i64 a0, .int .i64 b0, .int .i64 a1, .int .i64 b1, .int .i64 a2, .int .i64 b2, .int .i64 a3, .int .i64 b3, .int .i64 a4, .int .i64 b4, .int .i64 a5, .int .i64 b5, .int .i64 a6, .int .i64 b6, .int .i64 a7, .int .i64 b7] (((((w.alloc (.cells #[.string name, .slice A la ca, .slice B lb cb, .slice Cl lc cl, .int .i64 r, .int .i64 z, .int .i64 nr, .int .i64 nz, .int .i64 step, .slice D ld cd] 29)).alloc (.cells #[.slice G ng cg, .int .i64 most] 75)).alloc (.cells #[.int .i64 y0, .int .i64 y1] 81)).alloc (.cells #[.int .i64 gr, .int .i64 gz] 78)).alloc (.cells #[.int .i64 a0, .int .i64 b0, .int .i64 a1, .int .i64 b1, .int .i64 a2, .int .i64 b2, .int .i64 a3, .int .i64 b3, .int .i64 a4, .int .i64 b4, .int .i64 a5, .int .i64 b5, .int .i64 a6, .int .i64 b6, .int .i64 a7, .int .i64 b7] 70))) := Lib.hid (by have h := RowL.new ((((w.alloc (.cells #[.string name, .slice A la ca, .slice B lb cb, .slice Cl lc cl, .int .i64 r, .int .i64 z, .int .i64 nr, .int .i64 nz, .int .i64 step, .slice D ld cd] 29)).alloc (.cells #[.slice G ng cg, .int .i64 most] 75)).alloc (.cells #[.int .i64 y0, .int .i64 y1] 81)).alloc (.cells #[.int .i64 gr, .int .i64 gz] 78)) #[.int .i64 a0, .int .i64 b0, .int .i64 a1, .int .i64 b1, .int .i64 a2, .int .i64 b2, .int .i64 a3, .int .i64 b3, .int .i64 a4, .int .i64 b4, .int .i64 a5, .int .i64 b5, .int .i64 a6, .int .i64 b6, .int .i64 a7, .int .i64 b7] 70; (try simp only [World.size_alloc] at h); exact h)
    have hB0 : Below w.heap.size w (((((w.alloc (.cells #[.string name, .slice A la ca, .slice B lb cb, .slice Cl lc cl, .int .i64 r, .int .i64 z, .int .i64 nr, .int .i64 nz, .int .i64 step, .slice D ld cd] 29)).alloc (.cells #[.slice G ng cg, .int .i64 most] 75)).alloc (.cells #[.int .i64 y0, .int .i64 y1] 81)).alloc (.cells #[.int .i64 gr, .int .i64 gz] 78)).alloc (.cells #[.int .i64 a0, .int .i64 b0, .int .i64 a1, .int .i64 b1, .int .i64 a2, .int .i64 b2, .int .i64 a3, .int .i64 b3, .int .i64 a4, .int .i64 b4, .int .i64 a5, .int .i64 b5, .int .i64 a6, .int .i64 b6, .int .i64 a7, .int .i64 b7] 70)) := by (with_reducible repeat first | exact Below.refl _ _ | assumption | ((first | refine Below.setCell ?_ ?_ _ | refine Below.alloc ?_ ?_ _); rotate_left; exact (by first | omega | (simp; done) | (simp; omega))) | refine Below.drew ?_ | refine Below_drewN ?_ _)
    have sW0 : w.heap.size + 1 + 1 + 1 + 1 < (((((w.alloc (.cells #[.string name, .slice A la ca, .slice B lb cb, .slice Cl lc cl, .int .i64 r, .int .i64 z, .int .i64 nr, .int .i64 nz, .int .i64 step, .slice D ld cd] 29)).alloc (.cells #[.slice G ng cg, .int .i64 most] 75)).alloc (.cells #[.int .i64 y0, .int .i64 y1] 81)).alloc (.cells #[.int .i64 gr, .int .i64 gz] 78)).alloc (.cells #[.int .i64 a0, .int .i64 b0, .int .i64 a1, .int .i64 b1, .int .i64 a2, .int .i64 b2, .int .i64 a3, .int .i64 b3, .int .i64 a4, .int .i64 b4, .int .i64 a5, .int .i64 b5, .int .i64 a6, .int .i64 b6, .int .i64 a7, .int .i64 b7] 70)).heap.size := by simp only [World.size_alloc]; omega
    obtain ⟨W0, hW0⟩ : ∃ W, (((((w.alloc (.cells #[.string name, .slice A la ca, .slice B lb cb, .slice Cl lc cl, .int .i64 r, .int .i64 z, .int .i64 nr, .int .i64 nz, .int .i64 step, .slice D ld cd] 29)).alloc (.cells #[.slice G ng cg, .int .i64 most] 75)).alloc (.cells #[.int .i64 y0, .int .i64 y1] 81)).alloc (.cells #[.int .i64 gr, .int .i64 gz] 78)).alloc (.cells #[.int .i64 a0, .int .i64 b0, .int .i64 a1, .int .i64 b1, .int .i64 a2, .int .i64 b2, .int .i64 a3, .int .i64 b3, .int .i64 a4, .int .i64 b4, .int .i64 a5, .int .i64 b5, .int .i64 a6, .int .i64 b6, .int .i64 a7, .int .i64 b7] 70)) = W := ⟨_, rfl⟩
    rw [hW0] at Fm Fx Fy Fg Fs hB0 sW0 ⊢
    clear hW0
    have m0 := Fm.out.cell 0 (.string name) rfl
    have m1 := Fm.out.cell 1 (.slice A la ca) rfl
    have m2 := Fm.out.cell 2 (.slice B lb cb) rfl
    have m3 := Fm.out.cell 3 (.slice Cl lc cl) rfl
    have m4 := Fm.out.cell 4 (.int .i64 r) rfl
    have m5 := Fm.out.cell 5 (.int .i64 z) rfl
    have m6 := Fm.out.cell 6 (.int .i64 nr) rfl
    have m7 := Fm.out.cell 7 (.int .i64 nz) rfl
    have m8 := Fm.out.cell 8 (.int .i64 step) rfl
    have m9 := Fm.out.cell 9 (.slice D ld cd) rfl
    have x0 := Fx.out.cell 0 (.slice G ng cg) rfl
    have x1 := Fx.out.cell 1 (.int .i64 most) rfl
    have y0 := Fy.out.cell 0 (.int .i64 y0) rfl
    have y1 := Fy.out.cell 1 (.int .i64 y1) rfl
    have g0 := Fg.out.cell 0 (.int .i64 gr) rfl
    have g1 := Fg.out.cell 1 (.int .i64 gz) rfl
    have s0 := Fs.out.cell 0 (.int .i64 a0) rfl
    have s1 := Fs.out.cell 1 (.int .i64 b0) rfl
    have s2 := Fs.out.cell 2 (.int .i64 a1) rfl
    have s3 := Fs.out.cell 3 (.int .i64 b1) rfl
    have s4 := Fs.out.cell 4 (.int .i64 a2) rfl
    have s5 := Fs.out.cell 5 (.int .i64 b2) rfl
    have s6 := Fs.out.cell 6 (.int .i64 a3) rfl
    have s7 := Fs.out.cell 7 (.int .i64 b3) rfl
    have s8 := Fs.out.cell 8 (.int .i64 a4) rfl
    have s9 := Fs.out.cell 9 (.int .i64 b4) rfl
    have s10 := Fs.out.cell 10 (.int .i64 a5) rfl
    have s11 := Fs.out.cell 11 (.int .i64 b5) rfl
    have s12 := Fs.out.cell 12 (.int .i64 a6) rfl
    have s13 := Fs.out.cell 13 (.int .i64 b6) rfl
    have s14 := Fs.out.cell 14 (.int .i64 a7) rfl
    have s15 := Fs.out.cell 15 (.int .i64 b7) rfl
    go_wp2_with fail
    refine (HS.out _ (by (with_reducible repeat first | exact Below.refl _ _ | assumption | ((first | refine Below.setCell ?_ ?_ _ | refine Below.alloc ?_ ?_ _); rotate_left; exact (by first | omega | (simp; done) | (simp; omega))) | refine Below.drew ?_ | refine Below_drewN ?_ _))).mono ?_
    rintro e w1 ⟨rfl, hb⟩
    clear m0 m1 m2 m3 m4 m5 m6 m7 m8 m9 x0 x1 y0 y1 g0 g1 s0 s1 s2 s3 s4 s5 s6 s7 s8 s9 s10 s11 s12 s13 s14 s15
    have Gm := Lib.hid (Fm.out.below hb)
    clear Fm
    have Fm := Lib.hid Gm.out
    clear Gm
    have Gx := Lib.hid (Fx.out.below hb)
    clear Fx
    have Fx := Lib.hid Gx.out
    clear Gx
    have Gy := Lib.hid (Fy.out.below hb)
    clear Fy
    have Fy := Lib.hid Gy.out
    clear Gy
    have Gg := Lib.hid (Fg.out.below hb)
    clear Fg
    have Fg := Lib.hid Gg.out
    clear Gg
    have Gs := Lib.hid (Fs.out.below hb)
    clear Fs
    have Fs := Lib.hid Gs.out
    clear Gs
    have m0 := Fm.out.cell 0 (.string name) rfl
    have m1 := Fm.out.cell 1 (.slice A la ca) rfl
    have m2 := Fm.out.cell 2 (.slice B lb cb) rfl
    have m3 := Fm.out.cell 3 (.slice Cl lc cl) rfl
    have m4 := Fm.out.cell 4 (.int .i64 r) rfl
    have m5 := Fm.out.cell 5 (.int .i64 z) rfl
    have m6 := Fm.out.cell 6 (.int .i64 nr) rfl
    have m7 := Fm.out.cell 7 (.int .i64 nz) rfl
    have m8 := Fm.out.cell 8 (.int .i64 step) rfl
    have m9 := Fm.out.cell 9 (.slice D ld cd) rfl
    have x0 := Fx.out.cell 0 (.slice G ng cg) rfl
    have x1 := Fx.out.cell 1 (.int .i64 most) rfl
    have y0 := Fy.out.cell 0 (.int .i64 y0) rfl
    have y1 := Fy.out.cell 1 (.int .i64 y1) rfl
    have g0 := Fg.out.cell 0 (.int .i64 gr) rfl
    have g1 := Fg.out.cell 1 (.int .i64 gz) rfl
    have s0 := Fs.out.cell 0 (.int .i64 a0) rfl
    have s1 := Fs.out.cell 1 (.int .i64 b0) rfl
    have s2 := Fs.out.cell 2 (.int .i64 a1) rfl
    have s3 := Fs.out.cell 3 (.int .i64 b1) rfl
    have s4 := Fs.out.cell 4 (.int .i64 a2) rfl
    have s5 := Fs.out.cell 5 (.int .i64 b2) rfl
    have s6 := Fs.out.cell 6 (.int .i64 a3) rfl
    have s7 := Fs.out.cell 7 (.int .i64 b3) rfl
    have s8 := Fs.out.cell 8 (.int .i64 a4) rfl
    have s9 := Fs.out.cell 9 (.int .i64 b4) rfl
    have s10 := Fs.out.cell 10 (.int .i64 a5) rfl
    have s11 := Fs.out.cell 11 (.int .i64 b5) rfl
    have s12 := Fs.out.cell 12 (.int .i64 a6) rfl
    have s13 := Fs.out.cell 13 (.int .i64 b6) rfl
    have s14 := Fs.out.cell 14 (.int .i64 a7) rfl
    have s15 := Fs.out.cell 15 (.int .i64 b7) rfl
    have hBw1 := hB0.trans (hb.mono hB0.size)
    clear hb
    go_wp2_with fail
    refine (HY0.out _ (by (with_reducible repeat first | exact Below.refl _ _ | assumption | ((first | refine Below.setCell ?_ ?_ _ | refine Below.alloc ?_ ?_ _); rotate_left; exact (by first | omega | (simp; done) | (simp; omega))) | refine Below.drew ?_ | refine Below_drewN ?_ _))).mono ?_
    rintro e w2 ⟨rfl, hb⟩
    clear m0 m1 m2 m3 m4 m5 m6 m7 m8 m9 x0 x1 y0 y1 g0 g1 s0 s1 s2 s3 s4 s5 s6 s7 s8 s9 s10 s11 s12 s13 s14 s15
    have Gm := Lib.hid (Fm.out.below hb)
    clear Fm
    have Fm := Lib.hid Gm.out
    clear Gm
    have Gx := Lib.hid (Fx.out.below hb)
    clear Fx
    have Fx := Lib.hid Gx.out
    clear Gx
    have Gy := Lib.hid (Fy.out.below hb)
    clear Fy
    have Fy := Lib.hid Gy.out
    clear Gy
    have Gg := Lib.hid (Fg.out.below hb)
    clear Fg
    have Fg := Lib.hid Gg.out
    clear Gg
    have Gs := Lib.hid (Fs.out.below hb)
    clear Fs
    have Fs := Lib.hid Gs.out
    clear Gs
    have m0 := Fm.out.cell 0 (.string name) rfl
    have m1 := Fm.out.cell 1 (.slice A la ca) rfl
    have m2 := Fm.out.cell 2 (.slice B lb cb) rfl
    have m3 := Fm.out.cell 3 (.slice Cl lc cl) rfl
    have m4 := Fm.out.cell 4 (.int .i64 r) rfl
    have m5 := Fm.out.cell 5 (.int .i64 z) rfl
    have m6 := Fm.out.cell 6 (.int .i64 nr) rfl
    have m7 := Fm.out.cell 7 (.int .i64 nz) rfl
    have m8 := Fm.out.cell 8 (.int .i64 step) rfl
    have m9 := Fm.out.cell 9 (.slice D ld cd) rfl
    have x0 := Fx.out.cell 0 (.slice G ng cg) rfl
    have x1 := Fx.out.cell 1 (.int .i64 most) rfl
    have y0 := Fy.out.cell 0 (.int .i64 y0) rfl
    have y1 := Fy.out.cell 1 (.int .i64 y1) rfl
    have g0 := Fg.out.cell 0 (.int .i64 gr) rfl
    have g1 := Fg.out.cell 1 (.int .i64 gz) rfl
    have s0 := Fs.out.cell 0 (.int .i64 a0) rfl
    have s1 := Fs.out.cell 1 (.int .i64 b0) rfl
    have s2 := Fs.out.cell 2 (.int .i64 a1) rfl
    have s3 := Fs.out.cell 3 (.int .i64 b1) rfl
    have s4 := Fs.out.cell 4 (.int .i64 a2) rfl
    have s5 := Fs.out.cell 5 (.int .i64 b2) rfl
    have s6 := Fs.out.cell 6 (.int .i64 a3) rfl
    have s7 := Fs.out.cell 7 (.int .i64 b3) rfl
    have s8 := Fs.out.cell 8 (.int .i64 a4) rfl
    have s9 := Fs.out.cell 9 (.int .i64 b4) rfl
    have s10 := Fs.out.cell 10 (.int .i64 a5) rfl
    have s11 := Fs.out.cell 11 (.int .i64 b5) rfl
    have s12 := Fs.out.cell 12 (.int .i64 a6) rfl
    have s13 := Fs.out.cell 13 (.int .i64 b6) rfl
    have s14 := Fs.out.cell 14 (.int .i64 a7) rfl
    have s15 := Fs.out.cell 15 (.int .i64 b7) rfl
    have hBw2 := hBw1.trans (hb.mono hBw1.size)
    clear hb
    go_wp2_with fail
    refine (HP.out _ (by (with_reducible repeat first | exact Below.refl _ _ | assumption | ((first | refine Below.setCell ?_ ?_ _ | refine Below.alloc ?_ ?_ _); rotate_left; exact (by first | omega | (simp; done) | (simp; omega))) | refine Below.drew ?_ | refine Below_drewN ?_ _))).mono ?_
    rintro e w3 ⟨rfl, hb⟩
    clear m0 m1 m2 m3 m4 m5 m6 m7 m8 m9 x0 x1 y0 y1 g0 g1 s0 s1 s2 s3 s4 s5 s6 s7 s8 s9 s10 s11 s12 s13 s14 s15
    have Gm := Lib.hid (Fm.out.below hb)
    clear Fm
    have Fm := Lib.hid Gm.out
    clear Gm
    have Gx := Lib.hid (Fx.out.below hb)
    clear Fx
    have Fx := Lib.hid Gx.out
    clear Gx
    have Gy := Lib.hid (Fy.out.below hb)
    clear Fy
    have Fy := Lib.hid Gy.out
    clear Gy
    have Gg := Lib.hid (Fg.out.below hb)
    clear Fg
    have Fg := Lib.hid Gg.out
    clear Gg
    have Gs := Lib.hid (Fs.out.below hb)
    clear Fs
    have Fs := Lib.hid Gs.out
    clear Gs
    have m0 := Fm.out.cell 0 (.string name) rfl
    have m1 := Fm.out.cell 1 (.slice A la ca) rfl
    have m2 := Fm.out.cell 2 (.slice B lb cb) rfl
    have m3 := Fm.out.cell 3 (.slice Cl lc cl) rfl
    have m4 := Fm.out.cell 4 (.int .i64 r) rfl
    have m5 := Fm.out.cell 5 (.int .i64 z) rfl
    have m6 := Fm.out.cell 6 (.int .i64 nr) rfl
    have m7 := Fm.out.cell 7 (.int .i64 nz) rfl
    have m8 := Fm.out.cell 8 (.int .i64 step) rfl
    have m9 := Fm.out.cell 9 (.slice D ld cd) rfl
    have x0 := Fx.out.cell 0 (.slice G ng cg) rfl
    have x1 := Fx.out.cell 1 (.int .i64 most) rfl
    have y0 := Fy.out.cell 0 (.int .i64 y0) rfl
    have y1 := Fy.out.cell 1 (.int .i64 y1) rfl
    have g0 := Fg.out.cell 0 (.int .i64 gr) rfl
    have g1 := Fg.out.cell 1 (.int .i64 gz) rfl
    have s0 := Fs.out.cell 0 (.int .i64 a0) rfl
    have s1 := Fs.out.cell 1 (.int .i64 b0) rfl
    have s2 := Fs.out.cell 2 (.int .i64 a1) rfl
    have s3 := Fs.out.cell 3 (.int .i64 b1) rfl
    have s4 := Fs.out.cell 4 (.int .i64 a2) rfl
    have s5 := Fs.out.cell 5 (.int .i64 b2) rfl
    have s6 := Fs.out.cell 6 (.int .i64 a3) rfl
    have s7 := Fs.out.cell 7 (.int .i64 b3) rfl
    have s8 := Fs.out.cell 8 (.int .i64 a4) rfl
    have s9 := Fs.out.cell 9 (.int .i64 b4) rfl
    have s10 := Fs.out.cell 10 (.int .i64 a5) rfl
    have s11 := Fs.out.cell 11 (.int .i64 b5) rfl
    have s12 := Fs.out.cell 12 (.int .i64 a6) rfl
    have s13 := Fs.out.cell 13 (.int .i64 b6) rfl
    have s14 := Fs.out.cell 14 (.int .i64 a7) rfl
    have s15 := Fs.out.cell 15 (.int .i64 b7) rfl
    have hBw3 := hBw2.trans (hb.mono hBw2.size)
    clear hb
    go_wp2_with fail
    go_ret2
    exact IntsAt.nil (by (with_reducible repeat first | exact Below.refl _ _ | assumption | ((first | refine Below.setCell ?_ ?_ _ | refine Below.alloc ?_ ?_ _); rotate_left; exact (by first | omega | (simp; done) | (simp; omega))) | refine Below.drew ?_ | refine Below_drewN ?_ _))
  subst hE
  rw [if_pos rfl]
  have hla := hM.coils.1
  have hl12 := (sound_of hc).coils.1
  have HG : Hid (∀ (k : Nat) c g, M.coils[k]? = some c → gs[k]? = some g → ((wishL M gs r1 z1 y0 y1).map (Value.int .i64))[k]? = some (.int .i64 (cutL ((g.r * r1 + g.z * z1 + g.sr * y0 + g.sz * y1).tdiv 1000) c.step)) ∧ (1 ≤ c.step ∧ c.step ≤ 1000000) ∧ (((-1000000 ≤ g.r ∧ g.r ≤ 1000000) ∧ (-1000000 ≤ g.z ∧ g.z ≤ 1000000)) ∧ (-1000000 ≤ g.sr ∧ g.sr ≤ 1000000) ∧ (-1000000 ≤ g.sz ∧ g.sz ≤ 1000000))) := Lib.hid (fun k c g hkc hkg =>
    ⟨by rw [List.getElem?_map, wishL_get hkc hkg]; rfl, steps_of hc hkc, strong_in hst hkg⟩)
  have HL : Hid (((wishL M gs r1 z1 y0 y1).map (Value.int .i64)).length = R.la) := Lib.hid (by rw [List.length_map, wishL_len hgl, hla])
  have HPL : Hid ((wishL M gs r1 z1 y0 y1).length = R.la) := Lib.hid (by rw [wishL_len hgl, hla])
  have hng : ng = R.la := by have := hG.1; omega
  have hl : R.la ≤ 12 := by omega
  have HNG := Lib.hid hng
  clear hng
  have IC := Lib.hid hM.coils
  have IG := Lib.hid hG
  clear hM hG hc hgl hst hla hl12 hn
  generalize wishL M gs r1 z1 y0 y1 = PT at *
  obtain ⟨T, hT⟩ : ∃ T, PT.map (Value.int .i64) = T := ⟨_, rfl⟩
  rw [hT] at HG HL
  have HT := Lib.hid hT
  clear hT
  have hny : ((-1000000000000000 ≤ r1 ∧ r1 ≤ 1000000000000000) ∧ (-1000000000000000 ≤ z1 ∧ z1 ≤ 1000000000000000)) ∧ (-1000000000000000 ≤ y0 ∧ y0 ≤ 1000000000000000) ∧ (-1000000000000000 ≤ y1 ∧ y1 ≤ 1000000000000000) := by omega
  have HNY := Lib.hid hny
  clear hny pr pz hy0 hy1
  obtain ⟨A, B, Cl, D, la, ca, lb, cb, lc, cl, ld, cd⟩ := R
  obtain ⟨name, coils, shells, limits, ⟨r, z, nr, nz, step⟩, sensors⟩ := M
  obtain ⟨a0, b0, a1, b1, a2, b2, a3, b3, a4, b4, a5, b5, a6, b6, a7, b7⟩ := s
  (try dsimp only at *)
  have HS := Lib.hid (show ∀ W, Below w.heap.size w W → Calls Tryz.prog 30 #[.agg #[.string name, .slice A la ca, .slice B lb cb, .slice Cl lc cl, .int .i64 r, .int .i64 z, .int .i64 nr, .int .i64 nz, .int .i64 step, .slice D ld cd], .agg #[.slice G ng cg, .int .i64 most]] W (Ret (.bool true) W) from HS0.out)
  have HP := Lib.hid (show ∀ W, Below w.heap.size w W → Calls Tryz.prog 58 #[.agg #[.int .i64 gr, .int .i64 gz], .agg #[.int .i64 a0, .int .i64 b0, .int .i64 a1, .int .i64 b1, .int .i64 a2, .int .i64 b2, .int .i64 a3, .int .i64 b3, .int .i64 a4, .int .i64 b4, .int .i64 a5, .int .i64 b5, .int .i64 a6, .int .i64 b6, .int .i64 a7, .int .i64 b7]] W (Ret (.tuple #[.int .i64 r1, .int .i64 z1, .int .i64 0]) W) from HP0.out)
  clear HS0 HP0
  have hmk := run_make_row' (P := Tryz.prog) 30 3 (.int .i64 0) 8 Tryz.underlying30 (by kernel_rfl) rfl .i64 .i64 la (by omega) (by omega)
  show Calls Tryz.prog 28 #[.agg #[.string name, .slice A la ca, .slice B lb cb, .slice Cl lc cl, .int .i64 r, .int .i64 z, .int .i64 nr, .int .i64 nz, .int .i64 step, .slice D ld cd], .agg #[.slice G ng cg, .int .i64 most], .agg #[.int .i64 y0, .int .i64 y1], .agg #[.int .i64 gr, .int .i64 gz], .agg #[.int .i64 a0, .int .i64 b0, .int .i64 a1, .int .i64 b1, .int .i64 a2, .int .i64 b2, .int .i64 a3, .int .i64 b3, .int .i64 a4, .int .i64 b4, .int .i64 a5, .int .i64 b5, .int .i64 a6, .int .i64 b6, .int .i64 a7, .int .i64 b7]] w _
  go_enter Tryz.func28, Tryz.ntmps28
  go_upto_region 1 with (fail)
  have Fm : Hid (RowL (w.heap.size) [.string name, .slice A la ca, .slice B lb cb, .slice Cl lc cl, .int .i64 r, .int .i64 z, .int .i64 nr, .int .i64 nz, .int .i64 step, .slice D ld cd] (((((w.alloc (.cells #[.string name, .slice A la ca, .slice B lb cb, .slice Cl lc cl, .int .i64 r, .int .i64 z, .int .i64 nr, .int .i64 nz, .int .i64 step, .slice D ld cd] 29)).alloc (.cells #[.slice G ng cg, .int .i64 most] 75)).alloc (.cells #[.int .i64 y0, .int .i64 y1] 81)).alloc (.cells #[.int .i64 gr, .int .i64 gz] 78)).alloc (.cells #[.int .i64 a0, .int .i64 b0, .int .i64 a1, .int .i64 b1, .int .i64 a2, .int .i64 b2, .int .i64 a3, .int .i64 b3, .int .i64 a4, .int .i64 b4, .int .i64 a5, .int .i64 b5, .int .i64 a6, .int .i64 b6, .int .i64 a7, .int .i64 b7] 70))) := Lib.hid (by have h := RowL.new w #[.string name, .slice A la ca, .slice B lb cb, .slice Cl lc cl, .int .i64 r, .int .i64 z, .int .i64 nr, .int .i64 nz, .int .i64 step, .slice D ld cd] 29; (try simp only [World.size_alloc] at h); exact ((((h.alloc _).alloc _).alloc _).alloc _))
  have Fx : Hid (RowL (w.heap.size + 1) [.slice G ng cg, .int .i64 most] (((((w.alloc (.cells #[.string name, .slice A la ca, .slice B lb cb, .slice Cl lc cl, .int .i64 r, .int .i64 z, .int .i64 nr, .int .i64 nz, .int .i64 step, .slice D ld cd] 29)).alloc (.cells #[.slice G ng cg, .int .i64 most] 75)).alloc (.cells #[.int .i64 y0, .int .i64 y1] 81)).alloc (.cells #[.int .i64 gr, .int .i64 gz] 78)).alloc (.cells #[.int .i64 a0, .int .i64 b0, .int .i64 a1, .int .i64 b1, .int .i64 a2, .int .i64 b2, .int .i64 a3, .int .i64 b3, .int .i64 a4, .int .i64 b4, .int .i64 a5, .int .i64 b5, .int .i64 a6, .int .i64 b6, .int .i64 a7, .int .i64 b7] 70))) := Lib.hid (by have h := RowL.new (w.alloc (.cells #[.string name, .slice A la ca, .slice B lb cb, .slice Cl lc cl, .int .i64 r, .int .i64 z, .int .i64 nr, .int .i64 nz, .int .i64 step, .slice D ld cd] 29)) #[.slice G ng cg, .int .i64 most] 75; (try simp only [World.size_alloc] at h); exact (((h.alloc _).alloc _).alloc _))
  have Fy : Hid (RowL (w.heap.size + 1 + 1) [.int .i64 y0, .int .i64 y1] (((((w.alloc (.cells #[.string name, .slice A la ca, .slice B lb cb, .slice Cl lc cl, .int .i64 r, .int .i64 z, .int .i64 nr, .int .i64 nz, .int .i64 step, .slice D ld cd] 29)).alloc (.cells #[.slice G ng cg, .int .i64 most] 75)).alloc (.cells #[.int .i64 y0, .int .i64 y1] 81)).alloc (.cells #[.int .i64 gr, .int .i64 gz] 78)).alloc (.cells #[.int .i64 a0, .int .i64 b0, .int .i64 a1, .int .i64 b1, .int .i64 a2, .int .i64 b2, .int .i64 a3, .int .i64 b3, .int .i64 a4, .int .i64 b4, .int .i64 a5, .int .i64 b5, .int .i64 a6, .int .i64 b6, .int .i64 a7, .int .i64 b7] 70))) := Lib.hid (by have h := RowL.new ((w.alloc (.cells #[.string name, .slice A la ca, .slice B lb cb, .slice Cl lc cl, .int .i64 r, .int .i64 z, .int .i64 nr, .int .i64 nz, .int .i64 step, .slice D ld cd] 29)).alloc (.cells #[.slice G ng cg, .int .i64 most] 75)) #[.int .i64 y0, .int .i64 y1] 81; (try simp only [World.size_alloc] at h); exact ((h.alloc _).alloc _))
  have Fg : Hid (RowL (w.heap.size + 1 + 1 + 1) [.int .i64 gr, .int .i64 gz] (((((w.alloc (.cells #[.string name, .slice A la ca, .slice B lb cb, .slice Cl lc cl, .int .i64 r, .int .i64 z, .int .i64 nr, .int .i64 nz, .int .i64 step, .slice D ld cd] 29)).alloc (.cells #[.slice G ng cg, .int .i64 most] 75)).alloc (.cells #[.int .i64 y0, .int .i64 y1] 81)).alloc (.cells #[.int .i64 gr, .int .i64 gz] 78)).alloc (.cells #[.int .i64 a0, .int .i64 b0, .int .i64 a1, .int .i64 b1, .int .i64 a2, .int .i64 b2, .int .i64 a3, .int .i64 b3, .int .i64 a4, .int .i64 b4, .int .i64 a5, .int .i64 b5, .int .i64 a6, .int .i64 b6, .int .i64 a7, .int .i64 b7] 70))) := Lib.hid (by have h := RowL.new (((w.alloc (.cells #[.string name, .slice A la ca, .slice B lb cb, .slice Cl lc cl, .int .i64 r, .int .i64 z, .int .i64 nr, .int .i64 nz, .int .i64 step, .slice D ld cd] 29)).alloc (.cells #[.slice G ng cg, .int .i64 most] 75)).alloc (.cells #[.int .i64 y0, .int .i64 y1] 81)) #[.int .i64 gr, .int .i64 gz] 78; (try simp only [World.size_alloc] at h); exact (h.alloc _))
  have Fs : Hid (RowL (w.heap.size + 1 + 1 + 1 + 1) [.int .i64 a0, .int .i64 b0, .int .i64 a1, .int .i64 b1, .int .i64 a2, .int .i64 b2, .int .i64 a3, .int .i64 b3, .int .i64 a4, .int .i64 b4, .int .i64 a5, .int .i64 b5, .int .i64 a6, .int .i64 b6, .int .i64 a7, .int .i64 b7] (((((w.alloc (.cells #[.string name, .slice A la ca, .slice B lb cb, .slice Cl lc cl, .int .i64 r, .int .i64 z, .int .i64 nr, .int .i64 nz, .int .i64 step, .slice D ld cd] 29)).alloc (.cells #[.slice G ng cg, .int .i64 most] 75)).alloc (.cells #[.int .i64 y0, .int .i64 y1] 81)).alloc (.cells #[.int .i64 gr, .int .i64 gz] 78)).alloc (.cells #[.int .i64 a0, .int .i64 b0, .int .i64 a1, .int .i64 b1, .int .i64 a2, .int .i64 b2, .int .i64 a3, .int .i64 b3, .int .i64 a4, .int .i64 b4, .int .i64 a5, .int .i64 b5, .int .i64 a6, .int .i64 b6, .int .i64 a7, .int .i64 b7] 70))) := Lib.hid (by have h := RowL.new ((((w.alloc (.cells #[.string name, .slice A la ca, .slice B lb cb, .slice Cl lc cl, .int .i64 r, .int .i64 z, .int .i64 nr, .int .i64 nz, .int .i64 step, .slice D ld cd] 29)).alloc (.cells #[.slice G ng cg, .int .i64 most] 75)).alloc (.cells #[.int .i64 y0, .int .i64 y1] 81)).alloc (.cells #[.int .i64 gr, .int .i64 gz] 78)) #[.int .i64 a0, .int .i64 b0, .int .i64 a1, .int .i64 b1, .int .i64 a2, .int .i64 b2, .int .i64 a3, .int .i64 b3, .int .i64 a4, .int .i64 b4, .int .i64 a5, .int .i64 b5, .int .i64 a6, .int .i64 b6, .int .i64 a7, .int .i64 b7] 70; (try simp only [World.size_alloc] at h); exact h)
  have hB0 : Below w.heap.size w (((((w.alloc (.cells #[.string name, .slice A la ca, .slice B lb cb, .slice Cl lc cl, .int .i64 r, .int .i64 z, .int .i64 nr, .int .i64 nz, .int .i64 step, .slice D ld cd] 29)).alloc (.cells #[.slice G ng cg, .int .i64 most] 75)).alloc (.cells #[.int .i64 y0, .int .i64 y1] 81)).alloc (.cells #[.int .i64 gr, .int .i64 gz] 78)).alloc (.cells #[.int .i64 a0, .int .i64 b0, .int .i64 a1, .int .i64 b1, .int .i64 a2, .int .i64 b2, .int .i64 a3, .int .i64 b3, .int .i64 a4, .int .i64 b4, .int .i64 a5, .int .i64 b5, .int .i64 a6, .int .i64 b6, .int .i64 a7, .int .i64 b7] 70)) := by (with_reducible repeat first | exact Below.refl _ _ | assumption | ((first | refine Below.setCell ?_ ?_ _ | refine Below.alloc ?_ ?_ _); rotate_left; exact (by first | omega | (simp; done) | (simp; omega))) | refine Below.drew ?_ | refine Below_drewN ?_ _)
  have sW0 : w.heap.size + 1 + 1 + 1 + 1 < (((((w.alloc (.cells #[.string name, .slice A la ca, .slice B lb cb, .slice Cl lc cl, .int .i64 r, .int .i64 z, .int .i64 nr, .int .i64 nz, .int .i64 step, .slice D ld cd] 29)).alloc (.cells #[.slice G ng cg, .int .i64 most] 75)).alloc (.cells #[.int .i64 y0, .int .i64 y1] 81)).alloc (.cells #[.int .i64 gr, .int .i64 gz] 78)).alloc (.cells #[.int .i64 a0, .int .i64 b0, .int .i64 a1, .int .i64 b1, .int .i64 a2, .int .i64 b2, .int .i64 a3, .int .i64 b3, .int .i64 a4, .int .i64 b4, .int .i64 a5, .int .i64 b5, .int .i64 a6, .int .i64 b6, .int .i64 a7, .int .i64 b7] 70)).heap.size := by simp only [World.size_alloc]; omega
  obtain ⟨W0, hW0⟩ : ∃ W, (((((w.alloc (.cells #[.string name, .slice A la ca, .slice B lb cb, .slice Cl lc cl, .int .i64 r, .int .i64 z, .int .i64 nr, .int .i64 nz, .int .i64 step, .slice D ld cd] 29)).alloc (.cells #[.slice G ng cg, .int .i64 most] 75)).alloc (.cells #[.int .i64 y0, .int .i64 y1] 81)).alloc (.cells #[.int .i64 gr, .int .i64 gz] 78)).alloc (.cells #[.int .i64 a0, .int .i64 b0, .int .i64 a1, .int .i64 b1, .int .i64 a2, .int .i64 b2, .int .i64 a3, .int .i64 b3, .int .i64 a4, .int .i64 b4, .int .i64 a5, .int .i64 b5, .int .i64 a6, .int .i64 b6, .int .i64 a7, .int .i64 b7] 70)) = W := ⟨_, rfl⟩
  rw [hW0] at Fm Fx Fy Fg Fs hB0 sW0 ⊢
  clear hW0
  have m0 := Fm.out.cell 0 (.string name) rfl
  have m1 := Fm.out.cell 1 (.slice A la ca) rfl
  have m2 := Fm.out.cell 2 (.slice B lb cb) rfl
  have m3 := Fm.out.cell 3 (.slice Cl lc cl) rfl
  have m4 := Fm.out.cell 4 (.int .i64 r) rfl
  have m5 := Fm.out.cell 5 (.int .i64 z) rfl
  have m6 := Fm.out.cell 6 (.int .i64 nr) rfl
  have m7 := Fm.out.cell 7 (.int .i64 nz) rfl
  have m8 := Fm.out.cell 8 (.int .i64 step) rfl
  have m9 := Fm.out.cell 9 (.slice D ld cd) rfl
  have x0 := Fx.out.cell 0 (.slice G ng cg) rfl
  have x1 := Fx.out.cell 1 (.int .i64 most) rfl
  have y0 := Fy.out.cell 0 (.int .i64 y0) rfl
  have y1 := Fy.out.cell 1 (.int .i64 y1) rfl
  have g0 := Fg.out.cell 0 (.int .i64 gr) rfl
  have g1 := Fg.out.cell 1 (.int .i64 gz) rfl
  have s0 := Fs.out.cell 0 (.int .i64 a0) rfl
  have s1 := Fs.out.cell 1 (.int .i64 b0) rfl
  have s2 := Fs.out.cell 2 (.int .i64 a1) rfl
  have s3 := Fs.out.cell 3 (.int .i64 b1) rfl
  have s4 := Fs.out.cell 4 (.int .i64 a2) rfl
  have s5 := Fs.out.cell 5 (.int .i64 b2) rfl
  have s6 := Fs.out.cell 6 (.int .i64 a3) rfl
  have s7 := Fs.out.cell 7 (.int .i64 b3) rfl
  have s8 := Fs.out.cell 8 (.int .i64 a4) rfl
  have s9 := Fs.out.cell 9 (.int .i64 b4) rfl
  have s10 := Fs.out.cell 10 (.int .i64 a5) rfl
  have s11 := Fs.out.cell 11 (.int .i64 b5) rfl
  have s12 := Fs.out.cell 12 (.int .i64 a6) rfl
  have s13 := Fs.out.cell 13 (.int .i64 b6) rfl
  have s14 := Fs.out.cell 14 (.int .i64 a7) rfl
  have s15 := Fs.out.cell 15 (.int .i64 b7) rfl
  go_wp2_with fail
  refine (HS.out _ (by (with_reducible repeat first | exact Below.refl _ _ | assumption | ((first | refine Below.setCell ?_ ?_ _ | refine Below.alloc ?_ ?_ _); rotate_left; exact (by first | omega | (simp; done) | (simp; omega))) | refine Below.drew ?_ | refine Below_drewN ?_ _))).mono ?_
  rintro e w1 ⟨rfl, hb⟩
  clear m0 m1 m2 m3 m4 m5 m6 m7 m8 m9 x0 x1 y0 y1 g0 g1 s0 s1 s2 s3 s4 s5 s6 s7 s8 s9 s10 s11 s12 s13 s14 s15
  have Gm := Lib.hid (Fm.out.below hb)
  clear Fm
  have Fm := Lib.hid Gm.out
  clear Gm
  have Gx := Lib.hid (Fx.out.below hb)
  clear Fx
  have Fx := Lib.hid Gx.out
  clear Gx
  have Gy := Lib.hid (Fy.out.below hb)
  clear Fy
  have Fy := Lib.hid Gy.out
  clear Gy
  have Gg := Lib.hid (Fg.out.below hb)
  clear Fg
  have Fg := Lib.hid Gg.out
  clear Gg
  have Gs := Lib.hid (Fs.out.below hb)
  clear Fs
  have Fs := Lib.hid Gs.out
  clear Gs
  have m0 := Fm.out.cell 0 (.string name) rfl
  have m1 := Fm.out.cell 1 (.slice A la ca) rfl
  have m2 := Fm.out.cell 2 (.slice B lb cb) rfl
  have m3 := Fm.out.cell 3 (.slice Cl lc cl) rfl
  have m4 := Fm.out.cell 4 (.int .i64 r) rfl
  have m5 := Fm.out.cell 5 (.int .i64 z) rfl
  have m6 := Fm.out.cell 6 (.int .i64 nr) rfl
  have m7 := Fm.out.cell 7 (.int .i64 nz) rfl
  have m8 := Fm.out.cell 8 (.int .i64 step) rfl
  have m9 := Fm.out.cell 9 (.slice D ld cd) rfl
  have x0 := Fx.out.cell 0 (.slice G ng cg) rfl
  have x1 := Fx.out.cell 1 (.int .i64 most) rfl
  have y0 := Fy.out.cell 0 (.int .i64 y0) rfl
  have y1 := Fy.out.cell 1 (.int .i64 y1) rfl
  have g0 := Fg.out.cell 0 (.int .i64 gr) rfl
  have g1 := Fg.out.cell 1 (.int .i64 gz) rfl
  have s0 := Fs.out.cell 0 (.int .i64 a0) rfl
  have s1 := Fs.out.cell 1 (.int .i64 b0) rfl
  have s2 := Fs.out.cell 2 (.int .i64 a1) rfl
  have s3 := Fs.out.cell 3 (.int .i64 b1) rfl
  have s4 := Fs.out.cell 4 (.int .i64 a2) rfl
  have s5 := Fs.out.cell 5 (.int .i64 b2) rfl
  have s6 := Fs.out.cell 6 (.int .i64 a3) rfl
  have s7 := Fs.out.cell 7 (.int .i64 b3) rfl
  have s8 := Fs.out.cell 8 (.int .i64 a4) rfl
  have s9 := Fs.out.cell 9 (.int .i64 b4) rfl
  have s10 := Fs.out.cell 10 (.int .i64 a5) rfl
  have s11 := Fs.out.cell 11 (.int .i64 b5) rfl
  have s12 := Fs.out.cell 12 (.int .i64 a6) rfl
  have s13 := Fs.out.cell 13 (.int .i64 b6) rfl
  have s14 := Fs.out.cell 14 (.int .i64 a7) rfl
  have s15 := Fs.out.cell 15 (.int .i64 b7) rfl
  have hBw1 := hB0.trans (hb.mono hB0.size)
  clear hb
  go_wp2_with fail
  refine (HY0.out _ (by (with_reducible repeat first | exact Below.refl _ _ | assumption | ((first | refine Below.setCell ?_ ?_ _ | refine Below.alloc ?_ ?_ _); rotate_left; exact (by first | omega | (simp; done) | (simp; omega))) | refine Below.drew ?_ | refine Below_drewN ?_ _))).mono ?_
  rintro e w2 ⟨rfl, hb⟩
  clear m0 m1 m2 m3 m4 m5 m6 m7 m8 m9 x0 x1 y0 y1 g0 g1 s0 s1 s2 s3 s4 s5 s6 s7 s8 s9 s10 s11 s12 s13 s14 s15
  have Gm := Lib.hid (Fm.out.below hb)
  clear Fm
  have Fm := Lib.hid Gm.out
  clear Gm
  have Gx := Lib.hid (Fx.out.below hb)
  clear Fx
  have Fx := Lib.hid Gx.out
  clear Gx
  have Gy := Lib.hid (Fy.out.below hb)
  clear Fy
  have Fy := Lib.hid Gy.out
  clear Gy
  have Gg := Lib.hid (Fg.out.below hb)
  clear Fg
  have Fg := Lib.hid Gg.out
  clear Gg
  have Gs := Lib.hid (Fs.out.below hb)
  clear Fs
  have Fs := Lib.hid Gs.out
  clear Gs
  have m0 := Fm.out.cell 0 (.string name) rfl
  have m1 := Fm.out.cell 1 (.slice A la ca) rfl
  have m2 := Fm.out.cell 2 (.slice B lb cb) rfl
  have m3 := Fm.out.cell 3 (.slice Cl lc cl) rfl
  have m4 := Fm.out.cell 4 (.int .i64 r) rfl
  have m5 := Fm.out.cell 5 (.int .i64 z) rfl
  have m6 := Fm.out.cell 6 (.int .i64 nr) rfl
  have m7 := Fm.out.cell 7 (.int .i64 nz) rfl
  have m8 := Fm.out.cell 8 (.int .i64 step) rfl
  have m9 := Fm.out.cell 9 (.slice D ld cd) rfl
  have x0 := Fx.out.cell 0 (.slice G ng cg) rfl
  have x1 := Fx.out.cell 1 (.int .i64 most) rfl
  have y0 := Fy.out.cell 0 (.int .i64 y0) rfl
  have y1 := Fy.out.cell 1 (.int .i64 y1) rfl
  have g0 := Fg.out.cell 0 (.int .i64 gr) rfl
  have g1 := Fg.out.cell 1 (.int .i64 gz) rfl
  have s0 := Fs.out.cell 0 (.int .i64 a0) rfl
  have s1 := Fs.out.cell 1 (.int .i64 b0) rfl
  have s2 := Fs.out.cell 2 (.int .i64 a1) rfl
  have s3 := Fs.out.cell 3 (.int .i64 b1) rfl
  have s4 := Fs.out.cell 4 (.int .i64 a2) rfl
  have s5 := Fs.out.cell 5 (.int .i64 b2) rfl
  have s6 := Fs.out.cell 6 (.int .i64 a3) rfl
  have s7 := Fs.out.cell 7 (.int .i64 b3) rfl
  have s8 := Fs.out.cell 8 (.int .i64 a4) rfl
  have s9 := Fs.out.cell 9 (.int .i64 b4) rfl
  have s10 := Fs.out.cell 10 (.int .i64 a5) rfl
  have s11 := Fs.out.cell 11 (.int .i64 b5) rfl
  have s12 := Fs.out.cell 12 (.int .i64 a6) rfl
  have s13 := Fs.out.cell 13 (.int .i64 b6) rfl
  have s14 := Fs.out.cell 14 (.int .i64 a7) rfl
  have s15 := Fs.out.cell 15 (.int .i64 b7) rfl
  have hBw2 := hBw1.trans (hb.mono hBw1.size)
  clear hb
  go_wp2_with fail
  refine (HP.out _ (by (with_reducible repeat first | exact Below.refl _ _ | assumption | ((first | refine Below.setCell ?_ ?_ _ | refine Below.alloc ?_ ?_ _); rotate_left; exact (by first | omega | (simp; done) | (simp; omega))) | refine Below.drew ?_ | refine Below_drewN ?_ _))).mono ?_
  rintro e w3 ⟨rfl, hb⟩
  clear m0 m1 m2 m3 m4 m5 m6 m7 m8 m9 x0 x1 y0 y1 g0 g1 s0 s1 s2 s3 s4 s5 s6 s7 s8 s9 s10 s11 s12 s13 s14 s15
  have Gm := Lib.hid (Fm.out.below hb)
  clear Fm
  have Fm := Lib.hid Gm.out
  clear Gm
  have Gx := Lib.hid (Fx.out.below hb)
  clear Fx
  have Fx := Lib.hid Gx.out
  clear Gx
  have Gy := Lib.hid (Fy.out.below hb)
  clear Fy
  have Fy := Lib.hid Gy.out
  clear Gy
  have Gg := Lib.hid (Fg.out.below hb)
  clear Fg
  have Fg := Lib.hid Gg.out
  clear Gg
  have Gs := Lib.hid (Fs.out.below hb)
  clear Fs
  have Fs := Lib.hid Gs.out
  clear Gs
  have m0 := Fm.out.cell 0 (.string name) rfl
  have m1 := Fm.out.cell 1 (.slice A la ca) rfl
  have m2 := Fm.out.cell 2 (.slice B lb cb) rfl
  have m3 := Fm.out.cell 3 (.slice Cl lc cl) rfl
  have m4 := Fm.out.cell 4 (.int .i64 r) rfl
  have m5 := Fm.out.cell 5 (.int .i64 z) rfl
  have m6 := Fm.out.cell 6 (.int .i64 nr) rfl
  have m7 := Fm.out.cell 7 (.int .i64 nz) rfl
  have m8 := Fm.out.cell 8 (.int .i64 step) rfl
  have m9 := Fm.out.cell 9 (.slice D ld cd) rfl
  have x0 := Fx.out.cell 0 (.slice G ng cg) rfl
  have x1 := Fx.out.cell 1 (.int .i64 most) rfl
  have y0 := Fy.out.cell 0 (.int .i64 y0) rfl
  have y1 := Fy.out.cell 1 (.int .i64 y1) rfl
  have g0 := Fg.out.cell 0 (.int .i64 gr) rfl
  have g1 := Fg.out.cell 1 (.int .i64 gz) rfl
  have s0 := Fs.out.cell 0 (.int .i64 a0) rfl
  have s1 := Fs.out.cell 1 (.int .i64 b0) rfl
  have s2 := Fs.out.cell 2 (.int .i64 a1) rfl
  have s3 := Fs.out.cell 3 (.int .i64 b1) rfl
  have s4 := Fs.out.cell 4 (.int .i64 a2) rfl
  have s5 := Fs.out.cell 5 (.int .i64 b2) rfl
  have s6 := Fs.out.cell 6 (.int .i64 a3) rfl
  have s7 := Fs.out.cell 7 (.int .i64 b3) rfl
  have s8 := Fs.out.cell 8 (.int .i64 a4) rfl
  have s9 := Fs.out.cell 9 (.int .i64 b4) rfl
  have s10 := Fs.out.cell 10 (.int .i64 a5) rfl
  have s11 := Fs.out.cell 11 (.int .i64 b5) rfl
  have s12 := Fs.out.cell 12 (.int .i64 a6) rfl
  have s13 := Fs.out.cell 13 (.int .i64 b6) rfl
  have s14 := Fs.out.cell 14 (.int .i64 a7) rfl
  have s15 := Fs.out.cell 15 (.int .i64 b7) rfl
  have hBw3 := hBw2.trans (hb.mono hBw2.size)
  clear hb
  have x3lt := Fx.out.lt
  have y3lt := Fy.out.lt
  go_upto_region 7 with (fail)
  have hR0 : Hid (RowL w3.heap.size (T.take 0 ++ List.replicate (la - 0) (.int .i64 0)) (w3.alloc (.cells (madeCells #[.int .i64 0] la) 3))) := Lib.hid (by rw [fill_none]; exact (ZeroL.new w3 la 3 (by omega)).row)
  have hb1 : Below w3.heap.size w3 (w3.alloc (.cells (madeCells #[.int .i64 0] la) 3)) := by (with_reducible repeat first | exact Below.refl _ _ | assumption | ((first | refine Below.setCell ?_ ?_ _ | refine Below.alloc ?_ ?_ _); rotate_left; exact (by first | omega | (simp; done) | (simp; omega))) | refine Below.drew ?_ | refine Below_drewN ?_ _)
  obtain ⟨W1, hW1⟩ : ∃ W, w3.alloc (.cells (madeCells #[.int .i64 0] la) 3) = W := ⟨_, rfl⟩
  rw [hW1] at hR0 hb1 ⊢
  clear hW1 hmk HS HY0 HP m0 m1 m2 m3 m4 m5 m6 m7 m8 m9 x0 x1 y0 y1 g0 g1 s0 s1 s2 s3 s4 s5 s6 s7 s8 s9 s10 s11 s12 s13 s14 s15
  have Gm := Lib.hid (Fm.out.below hb1)
  clear Fm
  have Fm := Lib.hid Gm.out
  clear Gm
  have Gy := Lib.hid (Fy.out.below hb1)
  clear Fy
  have Fy := Lib.hid Gy.out
  clear Gy
  have m0 := Fm.out.cell 0 (.string name) rfl
  have m1 := Fm.out.cell 1 (.slice A la ca) rfl
  have m2 := Fm.out.cell 2 (.slice B lb cb) rfl
  have m3 := Fm.out.cell 3 (.slice Cl lc cl) rfl
  have m4 := Fm.out.cell 4 (.int .i64 r) rfl
  have m5 := Fm.out.cell 5 (.int .i64 z) rfl
  have m6 := Fm.out.cell 6 (.int .i64 nr) rfl
  have m7 := Fm.out.cell 7 (.int .i64 nz) rfl
  have m8 := Fm.out.cell 8 (.int .i64 step) rfl
  have m9 := Fm.out.cell 9 (.slice D ld cd) rfl
  have y0 := Fy.out.cell 0 (.int .i64 y0) rfl
  have y1 := Fy.out.cell 1 (.int .i64 y1) rfl
  clear Fg Fs
  have FX := Lib.hid (Fx.out.below hb1)
  clear Fx
  have szb := hBw3.size
  go_wp2_with fail
  clear m0 m1 m2 m3 m4 m5 m6 m7 m8 m9 y0 y1
  go_loopw [16, 17, 18, 45] (fun _ _ _ i wr => ∃ j : Nat, j ≤ la ∧ i = .int .i64 j ∧ Hid (RowL w3.heap.size (T.take j ++ List.replicate (la - j) (.int .i64 0)) wr) ∧ Below w3.heap.size w3 wr ∧ Hid (RowL (w.heap.size + 1) [.slice G ng cg, .int .i64 most] wr) ∧ Hid (RowL (w.heap.size + 1 + 1) [.int .i64 y0, .int .i64 y1] wr)) (fun _ _ _ i _ => la - (intOf i).toNat)
  case atStart => exact ⟨0, Nat.zero_le _, rfl, hR0, hb1, FX, Fy⟩
  case round =>
    obtain ⟨j, hj, rfl, hR, hB, FX, Fy⟩ := hrel
    have sz := hB.size
    by_cases hlt : j < la
    · obtain ⟨zz1, hcl⟩ := IC.out.below (hBw3.trans (hB.mono hBw3.size))
      obtain ⟨b, o, rfl, hb0, hcl⟩ := hcl (by omega)
      obtain ⟨zz2, hclg⟩ := IG.out.below (hBw3.trans (hB.mono hBw3.size))
      have hjg : j < ng := by have := HNG.out; (try dsimp only at this); omega
      obtain ⟨bg, og, rfl, hbg, hclg⟩ := hclg (by omega)
      obtain ⟨x, hx⟩ : ∃ x, coils[j]? = some x := ⟨_, List.getElem?_eq_getElem (by omega)⟩
      obtain ⟨v, hv⟩ : ∃ x, gs[j]? = some x := ⟨_, List.getElem?_eq_getElem (by omega)⟩
      obtain ⟨g1, g2, g3⟩ := HG.out j x v hx hv
      obtain ⟨cn, c1, c2, c3, c4, c5, c6, c7⟩ := x
      obtain ⟨h0, h1, h2, h3⟩ := v
      dsimp only at g1 g2 g3
      have HT2 := Lib.hid g1
      have k0 : wr.cell? ⟨b, o + j * 8, none⟩ = some (.string cn) := by have h := hcl j _ hx 0 _ rfl; simpa using h
      have k1 : wr.cell? ⟨b, o + j * 8 + 1, none⟩ = some (.int .i64 c1) := by have h := hcl j _ hx 1 _ rfl; simpa using h
      have k2 : wr.cell? ⟨b, o + j * 8 + 2, none⟩ = some (.int .i64 c2) := by have h := hcl j _ hx 2 _ rfl; simpa using h
      have k3 : wr.cell? ⟨b, o + j * 8 + 3, none⟩ = some (.int .i64 c3) := by have h := hcl j _ hx 3 _ rfl; simpa using h
      have k4 : wr.cell? ⟨b, o + j * 8 + 4, none⟩ = some (.int .i64 c4) := by have h := hcl j _ hx 4 _ rfl; simpa using h
      have k5 : wr.cell? ⟨b, o + j * 8 + 5, none⟩ = some (.int .i64 c5) := by have h := hcl j _ hx 5 _ rfl; simpa using h
      have k6 : wr.cell? ⟨b, o + j * 8 + 6, none⟩ = some (.int .i64 c6) := by have h := hcl j _ hx 6 _ rfl; simpa using h
      have k7 : wr.cell? ⟨b, o + j * 8 + 7, none⟩ = some (.int .i64 c7) := by have h := hcl j _ hx 7 _ rfl; simpa using h
      have e0 : wr.cell? ⟨bg, og + j * 4, none⟩ = some (.int .i64 h0) := by have h := hclg j _ hv 0 _ rfl; simpa using h
      have e1 : wr.cell? ⟨bg, og + j * 4 + 1, none⟩ = some (.int .i64 h1) := by have h := hclg j _ hv 1 _ rfl; simpa using h
      have e2 : wr.cell? ⟨bg, og + j * 4 + 2, none⟩ = some (.int .i64 h2) := by have h := hclg j _ hv 2 _ rfl; simpa using h
      have e3 : wr.cell? ⟨bg, og + j * 4 + 3, none⟩ = some (.int .i64 h3) := by have h := hclg j _ hv 3 _ rfl; simpa using h
      have x0 := FX.out.cell 0 _ rfl
      have xlt := FX.out.lt
      have ylt := Fy.out.lt
      have HA : Hid (∀ (b1 b2 : Nat) (W : World), IsT 1 intCells W (some ⟨b1, 0, none⟩) 4 [h0, h1, h2, h3] → IsT 1 intCells W (some ⟨b2, 0, none⟩) 4 [r1, z1, y0, y1] → Calls Tryz.prog 60 #[.slice (some ⟨b1, 0, none⟩) 4 4, .slice (some ⟨b2, 0, none⟩) 4 4] W (Ret (.int .i64 ((h0 * r1 + h1 * z1 + h2 * y0 + h3 * y1).tdiv 1000)) W)) := Lib.hid (fun b1 b2 W i1 i2 => answer4 b1 b2 h0 h1 h2 h3 r1 z1 y0 y1 W i1 i2 g3 HNY.out)
      generalize (h0 * r1 + h1 * z1 + h2 * y0 + h3 * y1).tdiv 1000 = V at *
      have HU := Lib.hid (fun W => cut_any V c5 W (by omega) (by omega))
      have jn : ((j : Int)).toNat = j := by omega
      have j0 : (0 : Int) ≤ j := by omega
      clear hcl hclg hx hv zz1 zz2 g1 g2 g3 HG IC IG hR0 hb1
      have GX := Lib.hid FX.out
      clear FX
      go_upto_region 11 with (fail)
      have Fk : Hid (RowL (wr.heap.size) [.string cn, .int .i64 c1, .int .i64 c2, .int .i64 c3, .int .i64 c4, .int .i64 c5, .int .i64 c6, .int .i64 c7] ((wr.alloc (.cells #[.string cn, .int .i64 c1, .int .i64 c2, .int .i64 c3, .int .i64 c4, .int .i64 c5, .int .i64 c6, .int .i64 c7] 49)).alloc (.cells #[.int .i64 h0, .int .i64 h1, .int .i64 h2, .int .i64 h3] 72))) := Lib.hid (by have h := RowL.new wr #[.string cn, .int .i64 c1, .int .i64 c2, .int .i64 c3, .int .i64 c4, .int .i64 c5, .int .i64 c6, .int .i64 c7] 49; (try simp only [World.size_alloc] at h); exact (h.alloc _))
      have Fh : Hid (RowL (wr.heap.size + 1) [.int .i64 h0, .int .i64 h1, .int .i64 h2, .int .i64 h3] ((wr.alloc (.cells #[.string cn, .int .i64 c1, .int .i64 c2, .int .i64 c3, .int .i64 c4, .int .i64 c5, .int .i64 c6, .int .i64 c7] 49)).alloc (.cells #[.int .i64 h0, .int .i64 h1, .int .i64 h2, .int .i64 h3] 72))) := Lib.hid (by have h := RowL.new (wr.alloc (.cells #[.string cn, .int .i64 c1, .int .i64 c2, .int .i64 c3, .int .i64 c4, .int .i64 c5, .int .i64 c6, .int .i64 c7] 49)) #[.int .i64 h0, .int .i64 h1, .int .i64 h2, .int .i64 h3] 72; (try simp only [World.size_alloc] at h); exact h)
      have hb7 : Below wr.heap.size wr ((wr.alloc (.cells #[.string cn, .int .i64 c1, .int .i64 c2, .int .i64 c3, .int .i64 c4, .int .i64 c5, .int .i64 c6, .int .i64 c7] 49)).alloc (.cells #[.int .i64 h0, .int .i64 h1, .int .i64 h2, .int .i64 h3] 72)) := by (with_reducible repeat first | exact Below.refl _ _ | assumption | ((first | refine Below.setCell ?_ ?_ _ | refine Below.alloc ?_ ?_ _); rotate_left; exact (by first | omega | (simp; done) | (simp; omega))) | refine Below.drew ?_ | refine Below_drewN ?_ _)
      have sW7 : wr.heap.size + 1 < ((wr.alloc (.cells #[.string cn, .int .i64 c1, .int .i64 c2, .int .i64 c3, .int .i64 c4, .int .i64 c5, .int .i64 c6, .int .i64 c7] 49)).alloc (.cells #[.int .i64 h0, .int .i64 h1, .int .i64 h2, .int .i64 h3] 72)).heap.size := by simp only [World.size_alloc]; omega
      obtain ⟨W7, hW7⟩ : ∃ W, ((wr.alloc (.cells #[.string cn, .int .i64 c1, .int .i64 c2, .int .i64 c3, .int .i64 c4, .int .i64 c5, .int .i64 c6, .int .i64 c7] 49)).alloc (.cells #[.int .i64 h0, .int .i64 h1, .int .i64 h2, .int .i64 h3] 72)) = W := ⟨_, rfl⟩
      rw [hW7] at Fk Fh hb7 sW7 ⊢
      clear hW7
      have F7 := Lib.hid (hR.out.below hb7)
      have FX7 := Lib.hid (GX.out.below hb7)
      have FY7 := Lib.hid (Fy.out.below hb7)
      have r0 := F7.out.cell j (.int .i64 0) (fill_get T la j _ HL.out hlt)
      have rf := F7.out.mark j (by rw [fill_len T la j _ HL.out (by omega)]; exact hlt)
      have h00 := Fh.out.cell 0 _ rfl
      have h01 := Fh.out.cell 1 _ rfl
      have h02 := Fh.out.cell 2 _ rfl
      have h03 := Fh.out.cell 3 _ rfl
      have k05 := Fk.out.cell 5 _ rfl
      have y00 := FY7.out.cell 0 _ rfl
      have y01 := FY7.out.cell 1 _ rfl
      have hbk : w3.heap.size < wr.heap.size := hR.out.lt
      have sz7 := hb7.size
      clear k0 k1 k2 k3 k4 k5 k6 k7 e0 e1 e2 e3 x0 Fh Fk
      go_wp2_with fail
      have HS : Hid (∀ w' : World, Reg (w3.heap.size) (W7) w' → (Reg (w3.heap.size) (W7) w' ∧ w'.cell? ⟨wr.heap.size + 1, 0, none⟩ = some (.int .i64 h0) ∧ w'.cell? ⟨wr.heap.size + 1, 1, none⟩ = some (.int .i64 h1) ∧ w'.cell? ⟨wr.heap.size + 1, 2, none⟩ = some (.int .i64 h2) ∧ w'.cell? ⟨wr.heap.size + 1, 3, none⟩ = some (.int .i64 h3) ∧ w'.cell? ⟨w.heap.size + 1 + 1, 0, none⟩ = some (.int .i64 y0) ∧ w'.cell? ⟨w.heap.size + 1 + 1, 1, none⟩ = some (.int .i64 y1) ∧ w'.cell? ⟨wr.heap.size, 5, none⟩ = some (.int .i64 c5) ∧ w'.cell? ⟨w3.heap.size, j, none⟩ = some (cur w' ⟨w3.heap.size, j, none⟩) ∧ w'.frozen? ⟨w3.heap.size, j, none⟩ = false)) := (fun w' h => by (have hc := h.cells; have hs := h.some; have hf := h.frozen; refine ⟨h, ?_⟩; (try simp only [World.size_alloc, World.size_setCell, size_drew, size_drewN] at hc hs hf); first | (simp (disch := omega) only [hc, hs, hf, cur_iff]; (try go_simp); done) | (simp (disch := first | omega | (simp; done)) only [hc, hs, hf, cur_iff]; (try go_simp); done) | (simp (maxDischargeDepth := 4) [hc, hs, hf, cur_iff, go_sem]; done) | (go_simp; done) | (simp (maxDischargeDepth := 4) [hc, hs, hf, cur_iff, go_sem]; go_simp))); go_region_held3 (fun w' => Reg (w3.heap.size) (W7) w' ∧ w'.cell? ⟨wr.heap.size + 1, 0, none⟩ = some (.int .i64 h0) ∧ w'.cell? ⟨wr.heap.size + 1, 1, none⟩ = some (.int .i64 h1) ∧ w'.cell? ⟨wr.heap.size + 1, 2, none⟩ = some (.int .i64 h2) ∧ w'.cell? ⟨wr.heap.size + 1, 3, none⟩ = some (.int .i64 h3) ∧ w'.cell? ⟨w.heap.size + 1 + 1, 0, none⟩ = some (.int .i64 y0) ∧ w'.cell? ⟨w.heap.size + 1 + 1, 1, none⟩ = some (.int .i64 y1) ∧ w'.cell? ⟨wr.heap.size, 5, none⟩ = some (.int .i64 c5) ∧ w'.cell? ⟨w3.heap.size, j, none⟩ = some (cur w' ⟨w3.heap.size, j, none⟩) ∧ w'.frozen? ⟨w3.heap.size, j, none⟩ = false) (exact HS.out _ (by (repeat first | with_reducible exact Reg.refl _ _ | with_reducible exact Reg.drewN2 _ _ _ _ | with_reducible exact (‹Reg _ _ _ ∧ _›).1 | (with_reducible refine Reg.setCell ?_ ?_ _; rotate_left; exact (by first | omega | ((try simp only [World.size_alloc, World.size_setCell, size_drew, size_drewN]); omega) | (simp; done) | (simp; omega))) | with_reducible refine Reg.alloc ?_ _ | with_reducible refine Reg.drew ?_ | with_reducible refine Reg.drewN ?_ _ | (with_reducible apply Reg.call; rotate_left; with_reducible assumption)))) (first | (go_at_call 60; refine (HA.out _ _ _ (isT4 (by first | omega | ((try simp only [World.size_alloc, World.size_setCell, size_drew, size_drewN]); omega) | (simp; done) | (simp; omega)) (by go_simp) (by go_simp) (by go_simp) (by go_simp)) (isT4 (by first | omega | ((try simp only [World.size_alloc, World.size_setCell, size_drew, size_drewN]); omega) | (simp; done) | (simp; omega)) (by go_simp) (by go_simp) (by go_simp) (by go_simp))).mono ?_; rintro e w8 ⟨rfl, hb8⟩; have hb := hb8; (first | (with_reducible have hk := Nat.lt_of_lt_of_le (size_alloc_lt _ _) hb.size) | (with_reducible have hk := Nat.lt_of_lt_of_le (size_alloc_drew_lt _ _) hb.size) | (with_reducible have hk := Nat.lt_of_lt_of_le hk hb.size) | skip); (try simp only [World.size_alloc, World.size_setCell, size_drew, size_drewN] at hk); obtain ⟨hc, hf⟩ := bcell hb; have hs := hb.size; (try simp only [World.size_alloc, World.size_setCell, size_drew, size_drewN] at hs); clear hb) | (go_at_call 59; refine (HU.out _).mono ?_; rintro e w9 ⟨rfl, rfl⟩))
      all_goals go_wp2_with fail
      all_goals have hR9 : RowL w3.heap.size (T.take j ++ List.replicate (la - j) (.int .i64 0)) w8 := RowL.below (by (repeat first | with_reducible refine RowL.drew ?_ | with_reducible refine RowL.alloc ?_ _); exact F7.out) hb8
      all_goals have hX9 : RowL (w.heap.size + 1) [.slice (some ⟨bg, og, none⟩) ng cg, .int .i64 most] w8 := RowL.below (by (repeat first | with_reducible refine RowL.drew ?_ | with_reducible refine RowL.alloc ?_ _); exact FX7.out) hb8
      all_goals have hY9 : RowL (w.heap.size + 1 + 1) [.int .i64 y0, .int .i64 y1] w8 := RowL.below (by (repeat first | with_reducible refine RowL.drew ?_ | with_reducible refine RowL.alloc ?_ _); exact FY7.out) hb8
      all_goals have h8 : Below w3.heap.size W7 w8 := Below.trans (by (with_reducible repeat first | exact Below.refl _ _ | assumption | ((first | refine Below.setCell ?_ ?_ _ | refine Below.alloc ?_ ?_ _); rotate_left; exact (by first | omega | (simp; done) | (simp; omega))) | refine Below.drew ?_ | refine Below_drewN ?_ _)) (hb8.mono (by first | omega | ((try simp only [World.size_alloc, World.size_setCell, size_drew, size_drewN]); omega) | (simp; done) | (simp; omega)))
      all_goals have h9 : Below w3.heap.size w3 w8 := hB.trans ((hb7.mono (by omega)).trans h8)
      all_goals have HR9 := Lib.hid (hR9.fill HL.out hlt HT2.out)
      all_goals have HX9 := Lib.hid (hX9.far (p := ⟨w3.heap.size, j, none⟩) (by dsimp only; omega) (.int .i64 (cutL V c5)))
      all_goals have HY9 := Lib.hid (hY9.far (p := ⟨w3.heap.size, j, none⟩) (by dsimp only; omega) (.int .i64 (cutL V c5)))
      all_goals clear hR9 hX9 hY9 h8
      all_goals go_roundw
      all_goals first | exact ⟨j + 1, by omega, by go_num, HR9, by (with_reducible repeat first | exact Below.refl _ _ | assumption | ((first | refine Below.setCell ?_ ?_ _ | refine Below.alloc ?_ ?_ _); rotate_left; exact (by first | omega | (simp; done) | (simp; omega))) | refine Below.drew ?_ | refine Below_drewN ?_ _), HX9, HY9⟩ | (simp [intOf]; omega)
    · obtain rfl : j = la := by omega
      have hR2 := hR.out
      rw [fill_all T j _ HL.out, ← HT.out] at hR2
      have HR3 := Lib.hid hR2
      have hP := HPL.out
      (try dsimp only at hP)
      clear hR hR0 hb1 hR2 HG IC IG FX Fy
      go_wp2_with fail
      go_ret2
      refine ⟨some ⟨w3.heap.size, 0, none⟩, j, by rw [hP]; rfl, ?_, by omega, hBw3.trans (hB.mono (by omega))⟩
      exact HR3.out.isI rfl

end Go.Proofs.YtnikdbglpimadaaGreat
end
