import Derived.Test.YtpnoinkiblnplaaDoorJAA
import Derived.Test.YtpnoinkiblnplaaDoorJAL
import Derived.RangeFuncNested
import Derived.RangeFuncBound
import Derived.RangeFuncCalls
import Derived.RangeFuncLeaves
import Derived.Shelf.Abstract
import Derived.Shelf.RegionOpen
import Derived.WalkKit
import Derived.OwnWalkIn
import Derived.TacticsInMore
import Derived.LoopNIn
import Derived.LoopIn
section
/- Package machine: the contract of Influence, over this seat's translation. -/
namespace Go.Proofs.YtpnoinkiblnplaaDoor
set_option linter.unusedVariables false
set_option linter.unusedSimpArgs false
open Go.RowKit

/-- The influence of two places. -/
def infl (a b c d : Int) : Int := if nearB a b 1000 = true ∧ nearB c d 1000 = true then 1000000 / (4 + (a - c) * (a - c) + (b - d) * (b - d)) else 0

theorem sq_bd {x : Int} (h0 : -2000 ≤ x) (h1 : x ≤ 2000) : 0 ≤ x * x ∧ x * x ≤ 4000000 := by
  rcases Int.le_total 0 x with h | h
  · exact ⟨Int.mul_nonneg h h, Int.mul_le_mul h1 h1 h (by omega)⟩
  · rw [← Int.neg_mul_neg]
    exact ⟨Int.mul_nonneg (by omega) (by omega), Int.mul_le_mul (a := -x) (b := -x) (c := 2000) (d := 2000) (by omega) (by omega) (by omega) (by omega)⟩
theorem nearB_bd {r z f : Int} (h : nearB r z f = true) : (-f ≤ r ∧ r ≤ f) ∧ -f ≤ z ∧ z ≤ f := by simpa [nearB, wthn] using h
theorem infl_bd (a b c d : Int) : 0 ≤ infl a b c d ∧ infl a b c d ≤ 250000 := by
  unfold infl
  split
  · rename_i h
    have h1 := nearB_bd h.1
    have h2 := nearB_bd h.2
    have s1 := sq_bd (x := a - c) (by omega) (by omega)
    have s2 := sq_bd (x := b - d) (by omega) (by omega)
    generalize (a - c) * (a - c) = p at *
    generalize (b - d) * (b - d) = q at *
    refine ⟨Int.ediv_nonneg (by omega) (by omega), ?_⟩
    have : 1000000 / (4 + p + q) ≤ 1000000 / 4 := by
      rw [Int.le_ediv_iff_mul_le (by omega)]
      have h4 : 1000000 / (4 + p + q) * (4 + p + q) ≤ 1000000 := Int.ediv_mul_le _ (by omega)
      have h5 : 0 ≤ 1000000 / (4 + p + q) := Int.ediv_nonneg (by omega) (by omega)
      have h6 : 1000000 / (4 + p + q) * 4 ≤ 1000000 / (4 + p + q) * (4 + p + q) := Int.mul_le_mul_of_nonneg_left (by omega) h5
      omega
    omega
  · omega

set_option maxRecDepth 100000 in
set_option maxHeartbeats 2000000 in
theorem influence_any (a b c d : Int) (w : World) :
    Calls Tryd.prog 61 #[.agg #[.int .i64 a, .int .i64 b], .agg #[.int .i64 c, .int .i64 d]] w (Ret (.int .i64 (infl a b c d)) w) := by
  cases n1 : nearB a b 1000
  · have HE : Hid (infl a b c d = 0) := Lib.hid (by unfold infl; rw [if_neg (by simp [n1])])
    go_enter Tryd.func61, Tryd.ntmps61
    go_wp2_with (go_at_call 90; refine (near_any _ _ _ _ (by omega) (by omega)).mono ?_; rintro e w1 ⟨rfl, rfl⟩)
    go_ret
    exact ⟨by rw [HE.out]; rfl, by (repeat first | with_reducible exact Below.refl _ _ | with_reducible assumption | (with_reducible refine Below.setCell ?_ ?_ _; rotate_left; exact (by first | omega | (simp; done) | (simp; omega))) | (with_reducible refine Below.alloc ?_ ?_ _; rotate_left; exact (by first | omega | (simp; done) | (simp; omega))) | with_reducible refine Below.drew ?_ | with_reducible refine Below_drewN ?_ _)⟩
  cases n2 : nearB c d 1000
  · have HE : Hid (infl a b c d = 0) := Lib.hid (by unfold infl; rw [if_neg (by simp [n2])])
    go_enter Tryd.func61, Tryd.ntmps61
    go_wp2_with (go_at_call 90; refine (near_any _ _ _ _ (by omega) (by omega)).mono ?_; rintro e w1 ⟨rfl, rfl⟩)
    go_ret
    exact ⟨by rw [HE.out]; rfl, by (repeat first | with_reducible exact Below.refl _ _ | with_reducible assumption | (with_reducible refine Below.setCell ?_ ?_ _; rotate_left; exact (by first | omega | (simp; done) | (simp; omega))) | (with_reducible refine Below.alloc ?_ ?_ _; rotate_left; exact (by first | omega | (simp; done) | (simp; omega))) | with_reducible refine Below.drew ?_ | with_reducible refine Below_drewN ?_ _)⟩
  have HE : Hid (infl a b c d = 1000000 / (4 + (a - c) * (a - c) + (b - d) * (b - d))) := Lib.hid (by unfold infl; rw [if_pos ⟨n1, n2⟩])
  obtain ⟨⟨a0, a1⟩, b0, b1⟩ := nearB_bd n1
  obtain ⟨⟨c0, c1⟩, d0, d1⟩ := nearB_bd n2
  have s1 := sq_bd (x := a - c) (by omega) (by omega)
  have s2 := sq_bd (x := b - d) (by omega) (by omega)
  have e1 : IntKind.i64.wrap (a - c) = a - c := IntWalk.i64_in _ (by omega)
  have e2 : IntKind.i64.wrap (b - d) = b - d := IntWalk.i64_in _ (by omega)
  go_enter Tryd.func61, Tryd.ntmps61
  go_wp2_with (go_at_call 90; refine (near_any _ _ _ _ (by omega) (by omega)).mono ?_; rintro e w1 ⟨rfl, rfl⟩)
  go_quiet (fail)
  obtain ⟨g0, g1⟩ := infl_bd a b c d
  generalize infl a b c d = G at *
  generalize hx : a - c = x at *
  generalize hy : b - d = y at *
  clear n1 n2
  generalize hp : x * x = p at *
  generalize hq : y * y = q at *
  have k0 : ¬(4 + p + q = 0) := by omega
  have k1 : ((4 + p + q) == 0) = false := by rw [beq_eq_false_iff_ne]; omega
  have k2 : (1000000 : Int).tdiv (4 + p + q) = G := by rw [HE.out]; exact Int.tdiv_eq_ediv_of_nonneg (by omega)
  have k3 : (1000000 : Int) / (4 + p + q) = G := HE.out.symm
  clear HE
  go_wp2_with fail
  go_ret
  exact ⟨rfl, by (repeat first | with_reducible exact Below.refl _ _ | with_reducible assumption | (with_reducible refine Below.setCell ?_ ?_ _; rotate_left; exact (by first | omega | (simp; done) | (simp; omega))) | (with_reducible refine Below.alloc ?_ ?_ _; rotate_left; exact (by first | omega | (simp; done) | (simp; omega))) | with_reducible refine Below.drew ?_ | with_reducible refine Below_drewN ?_ _)⟩

end Go.Proofs.YtpnoinkiblnplaaDoor
end
section
/- Package machine: the iterator sources of a machine that has neither coils nor shells, and fluxAt over it, over this seat's translation. -/
namespace Go.Proofs.YtpnoinkiblnplaaDoor
set_option linter.unusedVariables false
set_option linter.unusedSimpArgs false
open Go.RowKit Go.Shelf
attribute [local go_sem] Oper.semAt_some

theorem grown_of_below {a b : World} (h : Below a.heap.size a b) : a.grownBy b none := ⟨h.os, h.tape, h.output, h.size, fun k hk _ => h.block k hk⟩

/-- What a round keeps: what lay below n₀, and the two boxes of the iterator. -/
def KpF (n₀ tm tc : Nat) (W W' : World) : Prop := Below n₀ W W' ∧ ∀ b o, b = tm ∨ b = tc → W'.cell? ⟨b, o, none⟩ = W.cell? ⟨b, o, none⟩
theorem KpF.t {n₀ tm tc : Nat} {A B C : World} (h : KpF n₀ tm tc A B) (k : KpF n₀ tm tc B C) : KpF n₀ tm tc A C := ⟨h.1.trans k.1, fun b o hb => (k.2 b o hb).trans (h.2 b o hb)⟩
theorem KpF.refl (n₀ tm tc : Nat) (A : World) : KpF n₀ tm tc A A := ⟨Below.refl _ _, fun _ _ _ => rfl⟩
theorem KpF.of_below {n₀ tm tc : Nat} {A B : World} (h0 : n₀ ≤ A.heap.size) (h1 : tm < A.heap.size) (h2 : tc < A.heap.size) (h : Below A.heap.size A B) : KpF n₀ tm tc A B :=
  ⟨h.mono h0, fun b o hb => h.cell (p := ⟨b, o, none⟩) (by show b < _; omega)⟩
theorem KpF.b {n₀ tm tc : Nat} {w : World} (hn : n₀ ≤ w.heap.size) (h1 : tm < w.heap.size) (h2 : tc < w.heap.size) (W : World) (l : Nat) (o o' : Obj) (hl : w.heap.size ≤ l) (h : W.heap[l]? = some o) (a : o.isCells = false) (b : o.isWalk = false) : KpF n₀ tm tc W (W.putObj l o') :=
  ⟨belowK_b hn W l o o' hl h a b, fun k i hk => World.cell?_of_block (w := W) (a := ⟨k, i, none⟩) (World.putObj_heap_other (by intro e; dsimp only at e; omega))⟩
theorem KpF.cell {n₀ tm tc : Nat} {W W' : World} (h : KpF n₀ tm tc W W') {b o : Nat} {v : Value} (hb : b = tm ∨ b = tc) (hv : W.cell? ⟨b, o, none⟩ = some v) : W'.cell? ⟨b, o, none⟩ = some v := (h.2 b o hb).trans hv

/-- A place with its current. -/
abbrev Src := (Int × Int) × Int
abbrev srcEnc (x : Src) : Array Value := #[.agg #[.int .i64 x.1.1, .int .i64 x.1.2], .int .i64 x.2]
/-- The first k cells with their currents. -/
def cellSrc (g : GridD) (zs : List Int) (k : Nat) : List Src := (List.range k).map fun (j : Nat) => ((cellR g (j : Int), cellZ g (j : Int)), zs[j]?.getD 0)
theorem cellSrc_succ (g : GridD) (zs : List Int) (k : Nat) : cellSrc g zs (k + 1) = cellSrc g zs k ++ [((cellR g (k : Int), cellZ g (k : Int)), zs[k]?.getD 0)] := by simp [cellSrc, List.range_succ]
theorem cellSrc_length (g : GridD) (zs : List Int) (k : Nat) : (cellSrc g zs k).length = k := by simp [cellSrc]

/-- What the program adds up. -/
def fluxW (p : Int × Int) : Int → List Src → Int
  | s, [] => s
  | s, x :: r => fluxW p (wrap64 (s + wrap64 (infl p.1 p.2 x.1.1 x.1.2 * x.2))) r
theorem fluxW_snoc (p : Int × Int) (s : Int) (pre : List Src) (x : Src) : fluxW p s (pre ++ [x]) = wrap64 (fluxW p s pre + wrap64 (infl p.1 p.2 x.1.1 x.1.2 * x.2)) := by
  induction pre generalizing s with
  | nil => rfl
  | cons y r ih => exact ih _

set_option maxRecDepth 100000 in
set_option maxHeartbeats 4000000 in
theorem sources1_bare (n : Nat) (hn : 3 ≤ n) (l tm tc n₀ len cap ca cb : Nat) (A B C : Option Addr) (g : GridD) (hg : g.Fine) (zs : List Int) (hl : len ≤ 1000) (J Jx : List Src → World → Prop)
    (hJ : ∀ pre W W', J pre W → Below W.heap.size W W' → J pre W')
    (hY : ∀ pre x W, J pre W → pre.length < len → YieldAt Fence.wide (n - 1) Tryd.prog l (srcEnc x) W fun e W' =>
      (e = .returned (.bool true) ∧ J (pre ++ [x]) W' ∧ KpF n₀ tm tc W W') ∨ (e = .returned (.bool false) ∧ Jx (pre ++ [x]) W'))
    (W : World) (hz : zs.length = len) (hC : 0 < len → ∃ b o : Nat, C = some ⟨b, o, none⟩ ∧ b < n₀ ∧ b < W.heap.size ∧ ∀ j x, zs[j]? = some x → W.cell? ⟨b, o + j, none⟩ = some (.int .i64 x)) (htm : tm < W.heap.size) (htc : tc < W.heap.size) (hn₀ : n₀ ≤ W.heap.size)
    (m1 : W.cell? ⟨tm, 1, none⟩ = some (.slice A 0 ca)) (m2 : W.cell? ⟨tm, 2, none⟩ = some (.slice B 0 cb)) (m4 : W.cell? ⟨tm, 4, none⟩ = some (.int .i64 g.r)) (m5 : W.cell? ⟨tm, 5, none⟩ = some (.int .i64 g.z)) (m6 : W.cell? ⟨tm, 6, none⟩ = some (.int .i64 g.nr)) (m7 : W.cell? ⟨tm, 7, none⟩ = some (.int .i64 g.nz)) (m8 : W.cell? ⟨tm, 8, none⟩ = some (.int .i64 g.step))
    (k2 : W.cell? ⟨tc, 2, none⟩ = some (.slice C len cap)) (h0 : J [] W) :
    CallsIn Fence.wide n Tryd.prog 89 #[.func (.yield l) #[] #[], .pointer (some ⟨tm, 0, none⟩), .pointer (some ⟨tc, 0, none⟩)] W fun e W' => (∃ v, e = .returned v) ∧
      ((∃ ys, ys = cellSrc g zs len ∧ J ys W') ∨ (∃ pre, (∃ k, k ≤ len ∧ pre = cellSrc g zs k) ∧ Jx pre W')) := by
  have HP := Lib.hid (fun (i : Nat) (hi : i < len) W => cellPlace_any g (i : Int) W hg (by omega) (by omega))
  have HJ := Lib.hid hJ
  have HC := Lib.hid hC
  have HS := Lib.hid (fun k => cellSrc_succ g zs k)
  have HL := Lib.hid (fun k => cellSrc_length g zs k)
  clear hJ hC hg
  have h86 : Fence.wide.fn 52 := trivial
  refine callsIn_of_wp Tryd.func89 rfl trivial ?_ rfl
  simp only [Tryd.ntmps89, List.size_toArray, List.length_cons, List.length_nil, Nat.reduceAdd, Nat.reduceSub, Array.replicate_succ, Array.replicate_zero, List.push_toArray, List.append_toArray, List.nil_append, List.cons_append]
  gi_wp2
  gi_loopw [13] (fun i wr => i = .int .i64 0 ∧ wr = W) (fun _ _ => 0)
  case atStart => exact ⟨rfl, rfl⟩
  case round =>
    obtain ⟨rfl, rfl⟩ := hrel
    gi_wp2
    gi_loopw [38] (fun i wx => i = .int .i64 0 ∧ wx = wr) (fun _ _ => 0)
    case atStart => exact ⟨rfl, rfl⟩
    case round =>
      obtain ⟨rfl, rfl⟩ := hrel
      obtain ⟨W0, rfl⟩ : ∃ W0 : World, W0 = wr := ⟨_, rfl⟩
      gi_wp2
      gi_loopw [60] (fun i wx => ∃ k : Nat, k ≤ len ∧ i = .int .i64 k ∧ J (cellSrc g zs k) wx ∧ KpF n₀ tm tc W0 wx ∧ W0.heap.size ≤ wx.heap.size) (fun i _ => len - (intOf i).toNat)
      case atStart => exact ⟨0, Nat.zero_le _, rfl, h0, KpF.refl _ _ _ _, Nat.le_refl _⟩
      case round =>
        obtain ⟨k, hk, rfl, hJs, hnx, hsz⟩ := hrel
        by_cases hlt : k < len
        · obtain ⟨b, o, rfl, hb0, hb1, hcl⟩ := HC.out (by omega)
          obtain ⟨x, hx⟩ : ∃ x, zs[k]? = some x := ⟨_, List.getElem?_eq_getElem (by omega)⟩
          have x0 := (hnx.1.cell (p := ⟨b, o + k, none⟩) hb0).trans (hcl k x hx)
          have y4 := hnx.cell (.inl rfl) m4
          have y5 := hnx.cell (.inl rfl) m5
          have y6 := hnx.cell (.inl rfl) m6
          have y7 := hnx.cell (.inl rfl) m7
          have y8 := hnx.cell (.inl rfl) m8
          have HX : Hid (cellSrc g zs (k + 1) = cellSrc g zs k ++ [((cellR g (k : Int), cellZ g (k : Int)), x)]) := Lib.hid (by rw [HS.out, hx]; rfl)
          have HPk := Lib.hid (HP.out k hlt)
          have HYk := Lib.hid (fun W1 (hJ1 : J (cellSrc g zs k) W1) => hY _ ((cellR g (k : Int), cellZ g (k : Int)), x) W1 hJ1 (by rw [HL.out]; exact hlt))
          clear hcl hx hY
          generalize cellR g (k : Int) = R at *
          generalize cellZ g (k : Int) = Z at *
          gi_wp2_with (refine ⟨fun _ => (by omega), ?_⟩; gi_at_call 52; refine (callsIn_wide.2 (HPk.out _)).mono ?_; rintro e w1 ⟨rfl, hb⟩; have hJ1 := HJ.out _ _ _ hJs hb; have hn1 := KpF.of_below (n₀ := n₀) (tm := tm) (tc := tc) (by omega) (by omega) (by omega) hb; have hs1 := hb.size; obtain ⟨fn, tmps, assign, body, hy, hR⟩ := HYk.out w1 hJ1; simp only [srcEnc] at hy)
          refine ⟨fun _ => (by omega), hR.mono ?_⟩
          clear hR hy
          rintro e W3 (⟨rfl, hJ3, hk3⟩ | ⟨rfl, hJx3⟩)
          · gi_wp2
            go_roundw
            case rel => exact ⟨k + 1, by omega, by go_num, by rw [HX.out]; exact hJ3, hnx.t (hn1.t hk3), by have := hk3.1.size; omega⟩
            case measure => simp [intOf]; omega
          · gi_wp2
            refine bodyPost_ret (results_none rfl _ _ _) rfl ?_
            exact ⟨⟨_, rfl⟩, .inr ⟨_, ⟨k + 1, by omega, HX.out.symm⟩, hJx3⟩⟩
        · obtain rfl : k = len := by omega
          gi_wp2
          go_end0
          exact ⟨⟨_, rfl⟩, .inl ⟨_, rfl, hJs⟩⟩

set_option maxHeartbeats 1000000 in
theorem sources_in (n : Nat) (mc cc : Array Value) (w : World) :
    CallsIn Fence.wide n Tryd.prog 60 #[.agg mc, .agg cc] w fun e w' => e = .returned (.func (.func 89) #[] #[.pointer (some ⟨w.heap.size, 0, none⟩), .pointer (some ⟨w.heap.size + 1, 0, none⟩)]) ∧ w' = (w.alloc (.cells mc 29)).alloc (.cells cc 32) := by
  refine callsIn_of_wp Tryd.func60 rfl trivial ?_ rfl
  simp only [Tryd.ntmps60, List.size_toArray, List.length_cons, List.length_nil, Nat.reduceAdd, Nat.reduceSub, Array.replicate_succ, Array.replicate_zero, List.push_toArray, List.append_toArray, List.nil_append, List.cons_append]
  gi_wp2
  go_ret
  exact ⟨rfl, rfl⟩

end Go.Proofs.YtpnoinkiblnplaaDoor
end
section
/- Package machine: fluxAt over a machine that has neither coils nor shells, over this seat's translation (written by mk_flux.py). -/
namespace Go.Proofs.YtpnoinkiblnplaaDoor
set_option linter.unusedVariables false
set_option linter.unusedSimpArgs false
open Go.RowKit Go.Shelf
attribute [local go_sem] Oper.semAt_some

set_option maxRecDepth 100000 in
set_option maxHeartbeats 16000000 in
theorem fluxAt_bare (name : ByteArray) (A B Cl D : Option Addr) (ca cb lc cl ld cd : Nat) (g : GridD) (hg : g.Fine) (A1 B1 C : Option Addr) (na qa nb qb len cap : Nat) (zs : List Int) (p0 p1 : Int) (w : World) (hI : IsT 1 intCells w C len zs) (hl : len ≤ 1000) :
    Calls Tryd.prog 33 #[.agg #[.string name, .slice A 0 ca, .slice B 0 cb, .slice Cl lc cl, .int .i64 g.r, .int .i64 g.z, .int .i64 g.nr, .int .i64 g.nz, .int .i64 g.step, .slice D ld cd], .agg #[.slice A1 na qa, .slice B1 nb qb, .slice C len cap], .agg #[.int .i64 p0, .int .i64 p1]] w
      (Ret (.int .i64 (fluxW (p0, p1) 0 (cellSrc g zs len))) w) := by
  refine (callsIn_wide (n := 8)).1 ?_
  have h87 : Fence.wide.fn 60 := trivial
  have h88 : Fence.wide.fn 61 := trivial
  have hP := fun (pre : List Src) (x : Src) => fluxW_snoc (p0, p1) 0 pre x
  have HP := Lib.hid hP
  clear hP
  refine callsIn_of_wp_marks Tryd.func33 rfl trivial ?_ rfl
  simp only [Tryd.ntmps33, List.size_toArray, List.length_cons, List.length_nil, Nat.reduceAdd, Nat.reduceSub, Array.replicate_succ, Array.replicate_zero, List.push_toArray, List.append_toArray, List.nil_append, List.cons_append]
  gi_wp2_with (gi_at_call 60; refine (sources_in _ _ _ _).mono ?_; rintro e w' ⟨rfl, rfl⟩)
  have hB0 : Below w.heap.size w ((((((w.alloc (.cells #[.string name, .slice A 0 ca, .slice B 0 cb, .slice Cl lc cl, .int .i64 g.r, .int .i64 g.z, .int .i64 g.nr, .int .i64 g.nz, .int .i64 g.step, .slice D ld cd] 29)).alloc (.cells #[.slice A1 na qa, .slice B1 nb qb, .slice C len cap] 32)).alloc (.cells #[.int .i64 p0, .int .i64 p1] 55)).alloc (.cells #[.int .i64 0] 3)).alloc (.cells #[.string name, .slice A 0 ca, .slice B 0 cb, .slice Cl lc cl, .int .i64 g.r, .int .i64 g.z, .int .i64 g.nr, .int .i64 g.nz, .int .i64 g.step, .slice D ld cd] 29)).alloc (.cells #[.slice A1 na qa, .slice B1 nb qb, .slice C len cap] 32)) := by (repeat first | with_reducible exact Below.refl _ _ | with_reducible assumption | (with_reducible refine Below.setCell ?_ ?_ _; rotate_left; exact (by first | omega | (simp; done) | (simp; omega))) | (with_reducible refine Below.alloc ?_ ?_ _; rotate_left; exact (by first | omega | (simp; done) | (simp; omega))) | with_reducible refine Below.drew ?_ | with_reducible refine Below_drewN ?_ _)
  have hsz : ((((((w.alloc (.cells #[.string name, .slice A 0 ca, .slice B 0 cb, .slice Cl lc cl, .int .i64 g.r, .int .i64 g.z, .int .i64 g.nr, .int .i64 g.nz, .int .i64 g.step, .slice D ld cd] 29)).alloc (.cells #[.slice A1 na qa, .slice B1 nb qb, .slice C len cap] 32)).alloc (.cells #[.int .i64 p0, .int .i64 p1] 55)).alloc (.cells #[.int .i64 0] 3)).alloc (.cells #[.string name, .slice A 0 ca, .slice B 0 cb, .slice Cl lc cl, .int .i64 g.r, .int .i64 g.z, .int .i64 g.nr, .int .i64 g.nz, .int .i64 g.step, .slice D ld cd] 29)).alloc (.cells #[.slice A1 na qa, .slice B1 nb qb, .slice C len cap] 32)).heap.size = w.heap.size + 1 + 1 + 1 + 1 + 1 + 1 := by simp
  have s0 : ((((((w.alloc (.cells #[.string name, .slice A 0 ca, .slice B 0 cb, .slice Cl lc cl, .int .i64 g.r, .int .i64 g.z, .int .i64 g.nr, .int .i64 g.nz, .int .i64 g.step, .slice D ld cd] 29)).alloc (.cells #[.slice A1 na qa, .slice B1 nb qb, .slice C len cap] 32)).alloc (.cells #[.int .i64 p0, .int .i64 p1] 55)).alloc (.cells #[.int .i64 0] 3)).alloc (.cells #[.string name, .slice A 0 ca, .slice B 0 cb, .slice Cl lc cl, .int .i64 g.r, .int .i64 g.z, .int .i64 g.nr, .int .i64 g.nz, .int .i64 g.step, .slice D ld cd] 29)).alloc (.cells #[.slice A1 na qa, .slice B1 nb qb, .slice C len cap] 32)).cell? ⟨w.heap.size + 1 + 1 + 1, 0, none⟩ = some (.int .i64 0) := by go_simp
  have sf : ((((((w.alloc (.cells #[.string name, .slice A 0 ca, .slice B 0 cb, .slice Cl lc cl, .int .i64 g.r, .int .i64 g.z, .int .i64 g.nr, .int .i64 g.nz, .int .i64 g.step, .slice D ld cd] 29)).alloc (.cells #[.slice A1 na qa, .slice B1 nb qb, .slice C len cap] 32)).alloc (.cells #[.int .i64 p0, .int .i64 p1] 55)).alloc (.cells #[.int .i64 0] 3)).alloc (.cells #[.string name, .slice A 0 ca, .slice B 0 cb, .slice Cl lc cl, .int .i64 g.r, .int .i64 g.z, .int .i64 g.nr, .int .i64 g.nz, .int .i64 g.step, .slice D ld cd] 29)).alloc (.cells #[.slice A1 na qa, .slice B1 nb qb, .slice C len cap] 32)).frozen? ⟨w.heap.size + 1 + 1 + 1, 0, none⟩ = false := by go_simp
  have q0 : ((((((w.alloc (.cells #[.string name, .slice A 0 ca, .slice B 0 cb, .slice Cl lc cl, .int .i64 g.r, .int .i64 g.z, .int .i64 g.nr, .int .i64 g.nz, .int .i64 g.step, .slice D ld cd] 29)).alloc (.cells #[.slice A1 na qa, .slice B1 nb qb, .slice C len cap] 32)).alloc (.cells #[.int .i64 p0, .int .i64 p1] 55)).alloc (.cells #[.int .i64 0] 3)).alloc (.cells #[.string name, .slice A 0 ca, .slice B 0 cb, .slice Cl lc cl, .int .i64 g.r, .int .i64 g.z, .int .i64 g.nr, .int .i64 g.nz, .int .i64 g.step, .slice D ld cd] 29)).alloc (.cells #[.slice A1 na qa, .slice B1 nb qb, .slice C len cap] 32)).cell? ⟨w.heap.size + 1 + 1, 0, none⟩ = some (.int .i64 p0) := by go_simp
  have q1 : ((((((w.alloc (.cells #[.string name, .slice A 0 ca, .slice B 0 cb, .slice Cl lc cl, .int .i64 g.r, .int .i64 g.z, .int .i64 g.nr, .int .i64 g.nz, .int .i64 g.step, .slice D ld cd] 29)).alloc (.cells #[.slice A1 na qa, .slice B1 nb qb, .slice C len cap] 32)).alloc (.cells #[.int .i64 p0, .int .i64 p1] 55)).alloc (.cells #[.int .i64 0] 3)).alloc (.cells #[.string name, .slice A 0 ca, .slice B 0 cb, .slice Cl lc cl, .int .i64 g.r, .int .i64 g.z, .int .i64 g.nr, .int .i64 g.nz, .int .i64 g.step, .slice D ld cd] 29)).alloc (.cells #[.slice A1 na qa, .slice B1 nb qb, .slice C len cap] 32)).cell? ⟨w.heap.size + 1 + 1, 1, none⟩ = some (.int .i64 p1) := by go_simp
  have m1 : ((((((w.alloc (.cells #[.string name, .slice A 0 ca, .slice B 0 cb, .slice Cl lc cl, .int .i64 g.r, .int .i64 g.z, .int .i64 g.nr, .int .i64 g.nz, .int .i64 g.step, .slice D ld cd] 29)).alloc (.cells #[.slice A1 na qa, .slice B1 nb qb, .slice C len cap] 32)).alloc (.cells #[.int .i64 p0, .int .i64 p1] 55)).alloc (.cells #[.int .i64 0] 3)).alloc (.cells #[.string name, .slice A 0 ca, .slice B 0 cb, .slice Cl lc cl, .int .i64 g.r, .int .i64 g.z, .int .i64 g.nr, .int .i64 g.nz, .int .i64 g.step, .slice D ld cd] 29)).alloc (.cells #[.slice A1 na qa, .slice B1 nb qb, .slice C len cap] 32)).cell? ⟨w.heap.size + 1 + 1 + 1 + 1, 1, none⟩ = some (.slice A 0 ca) := by go_simp
  have m2 : ((((((w.alloc (.cells #[.string name, .slice A 0 ca, .slice B 0 cb, .slice Cl lc cl, .int .i64 g.r, .int .i64 g.z, .int .i64 g.nr, .int .i64 g.nz, .int .i64 g.step, .slice D ld cd] 29)).alloc (.cells #[.slice A1 na qa, .slice B1 nb qb, .slice C len cap] 32)).alloc (.cells #[.int .i64 p0, .int .i64 p1] 55)).alloc (.cells #[.int .i64 0] 3)).alloc (.cells #[.string name, .slice A 0 ca, .slice B 0 cb, .slice Cl lc cl, .int .i64 g.r, .int .i64 g.z, .int .i64 g.nr, .int .i64 g.nz, .int .i64 g.step, .slice D ld cd] 29)).alloc (.cells #[.slice A1 na qa, .slice B1 nb qb, .slice C len cap] 32)).cell? ⟨w.heap.size + 1 + 1 + 1 + 1, 2, none⟩ = some (.slice B 0 cb) := by go_simp
  have m4 : ((((((w.alloc (.cells #[.string name, .slice A 0 ca, .slice B 0 cb, .slice Cl lc cl, .int .i64 g.r, .int .i64 g.z, .int .i64 g.nr, .int .i64 g.nz, .int .i64 g.step, .slice D ld cd] 29)).alloc (.cells #[.slice A1 na qa, .slice B1 nb qb, .slice C len cap] 32)).alloc (.cells #[.int .i64 p0, .int .i64 p1] 55)).alloc (.cells #[.int .i64 0] 3)).alloc (.cells #[.string name, .slice A 0 ca, .slice B 0 cb, .slice Cl lc cl, .int .i64 g.r, .int .i64 g.z, .int .i64 g.nr, .int .i64 g.nz, .int .i64 g.step, .slice D ld cd] 29)).alloc (.cells #[.slice A1 na qa, .slice B1 nb qb, .slice C len cap] 32)).cell? ⟨w.heap.size + 1 + 1 + 1 + 1, 4, none⟩ = some (.int .i64 g.r) := by go_simp
  have m5 : ((((((w.alloc (.cells #[.string name, .slice A 0 ca, .slice B 0 cb, .slice Cl lc cl, .int .i64 g.r, .int .i64 g.z, .int .i64 g.nr, .int .i64 g.nz, .int .i64 g.step, .slice D ld cd] 29)).alloc (.cells #[.slice A1 na qa, .slice B1 nb qb, .slice C len cap] 32)).alloc (.cells #[.int .i64 p0, .int .i64 p1] 55)).alloc (.cells #[.int .i64 0] 3)).alloc (.cells #[.string name, .slice A 0 ca, .slice B 0 cb, .slice Cl lc cl, .int .i64 g.r, .int .i64 g.z, .int .i64 g.nr, .int .i64 g.nz, .int .i64 g.step, .slice D ld cd] 29)).alloc (.cells #[.slice A1 na qa, .slice B1 nb qb, .slice C len cap] 32)).cell? ⟨w.heap.size + 1 + 1 + 1 + 1, 5, none⟩ = some (.int .i64 g.z) := by go_simp
  have m6 : ((((((w.alloc (.cells #[.string name, .slice A 0 ca, .slice B 0 cb, .slice Cl lc cl, .int .i64 g.r, .int .i64 g.z, .int .i64 g.nr, .int .i64 g.nz, .int .i64 g.step, .slice D ld cd] 29)).alloc (.cells #[.slice A1 na qa, .slice B1 nb qb, .slice C len cap] 32)).alloc (.cells #[.int .i64 p0, .int .i64 p1] 55)).alloc (.cells #[.int .i64 0] 3)).alloc (.cells #[.string name, .slice A 0 ca, .slice B 0 cb, .slice Cl lc cl, .int .i64 g.r, .int .i64 g.z, .int .i64 g.nr, .int .i64 g.nz, .int .i64 g.step, .slice D ld cd] 29)).alloc (.cells #[.slice A1 na qa, .slice B1 nb qb, .slice C len cap] 32)).cell? ⟨w.heap.size + 1 + 1 + 1 + 1, 6, none⟩ = some (.int .i64 g.nr) := by go_simp
  have m7 : ((((((w.alloc (.cells #[.string name, .slice A 0 ca, .slice B 0 cb, .slice Cl lc cl, .int .i64 g.r, .int .i64 g.z, .int .i64 g.nr, .int .i64 g.nz, .int .i64 g.step, .slice D ld cd] 29)).alloc (.cells #[.slice A1 na qa, .slice B1 nb qb, .slice C len cap] 32)).alloc (.cells #[.int .i64 p0, .int .i64 p1] 55)).alloc (.cells #[.int .i64 0] 3)).alloc (.cells #[.string name, .slice A 0 ca, .slice B 0 cb, .slice Cl lc cl, .int .i64 g.r, .int .i64 g.z, .int .i64 g.nr, .int .i64 g.nz, .int .i64 g.step, .slice D ld cd] 29)).alloc (.cells #[.slice A1 na qa, .slice B1 nb qb, .slice C len cap] 32)).cell? ⟨w.heap.size + 1 + 1 + 1 + 1, 7, none⟩ = some (.int .i64 g.nz) := by go_simp
  have m8 : ((((((w.alloc (.cells #[.string name, .slice A 0 ca, .slice B 0 cb, .slice Cl lc cl, .int .i64 g.r, .int .i64 g.z, .int .i64 g.nr, .int .i64 g.nz, .int .i64 g.step, .slice D ld cd] 29)).alloc (.cells #[.slice A1 na qa, .slice B1 nb qb, .slice C len cap] 32)).alloc (.cells #[.int .i64 p0, .int .i64 p1] 55)).alloc (.cells #[.int .i64 0] 3)).alloc (.cells #[.string name, .slice A 0 ca, .slice B 0 cb, .slice Cl lc cl, .int .i64 g.r, .int .i64 g.z, .int .i64 g.nr, .int .i64 g.nz, .int .i64 g.step, .slice D ld cd] 29)).alloc (.cells #[.slice A1 na qa, .slice B1 nb qb, .slice C len cap] 32)).cell? ⟨w.heap.size + 1 + 1 + 1 + 1, 8, none⟩ = some (.int .i64 g.step) := by go_simp
  have k2 : ((((((w.alloc (.cells #[.string name, .slice A 0 ca, .slice B 0 cb, .slice Cl lc cl, .int .i64 g.r, .int .i64 g.z, .int .i64 g.nr, .int .i64 g.nz, .int .i64 g.step, .slice D ld cd] 29)).alloc (.cells #[.slice A1 na qa, .slice B1 nb qb, .slice C len cap] 32)).alloc (.cells #[.int .i64 p0, .int .i64 p1] 55)).alloc (.cells #[.int .i64 0] 3)).alloc (.cells #[.string name, .slice A 0 ca, .slice B 0 cb, .slice Cl lc cl, .int .i64 g.r, .int .i64 g.z, .int .i64 g.nr, .int .i64 g.nz, .int .i64 g.step, .slice D ld cd] 29)).alloc (.cells #[.slice A1 na qa, .slice B1 nb qb, .slice C len cap] 32)).cell? ⟨w.heap.size + 1 + 1 + 1 + 1 + 1, 2, none⟩ = some (.slice C len cap) := by go_simp
  obtain ⟨W0, hW0⟩ : ∃ W0, ((((((w.alloc (.cells #[.string name, .slice A 0 ca, .slice B 0 cb, .slice Cl lc cl, .int .i64 g.r, .int .i64 g.z, .int .i64 g.nr, .int .i64 g.nz, .int .i64 g.step, .slice D ld cd] 29)).alloc (.cells #[.slice A1 na qa, .slice B1 nb qb, .slice C len cap] 32)).alloc (.cells #[.int .i64 p0, .int .i64 p1] 55)).alloc (.cells #[.int .i64 0] 3)).alloc (.cells #[.string name, .slice A 0 ca, .slice B 0 cb, .slice Cl lc cl, .int .i64 g.r, .int .i64 g.z, .int .i64 g.nr, .int .i64 g.nz, .int .i64 g.step, .slice D ld cd] 29)).alloc (.cells #[.slice A1 na qa, .slice B1 nb qb, .slice C len cap] 32)) = W0 := ⟨_, rfl⟩
  rw [hW0] at hB0 hsz s0 sf q0 q1 m1 m2 m4 m5 m6 m7 m8 k2 ⊢
  clear hW0
  have hC : 0 < len → ∃ b o : Nat, C = some ⟨b, o, none⟩ ∧ b < w.heap.size ∧ ∀ j x, zs[j]? = some x → w.cell? ⟨b, o + j, none⟩ = some (.int .i64 x) := fun h0 => by
    obtain ⟨b, o, e, h1, h2⟩ := hI.2 h0
    exact ⟨b, o, e, h1, fun j x hx => by have := h2 j x hx 0 _ rfl; simpa using this⟩
  have hseq : SeqStopsK Fence.wide 7 Tryd.prog 89 #[.pointer (some ⟨w.heap.size + 1 + 1 + 1 + 1, 0, none⟩), .pointer (some ⟨w.heap.size + 1 + 1 + 1 + 1 + 1, 0, none⟩)] srcEnc (KpF w.heap.size (w.heap.size + 1 + 1 + 1 + 1) (w.heap.size + 1 + 1 + 1 + 1 + 1)) (fun ys => ys = cellSrc g zs len) (fun pre => ∃ k, k ≤ len ∧ pre = cellSrc g zs k) len W0 := fun l J Jx W hW hJa _ hY h0 =>
    sources1_bare 7 (by omega) l (w.heap.size + 1 + 1 + 1 + 1) (w.heap.size + 1 + 1 + 1 + 1 + 1) w.heap.size len cap ca cb A B C g hg zs hl J Jx (fun pre X Y hj hb => hJa pre X Y none hj (grown_of_below hb) (fun r e => by cases e)) hY W hI.1
      (fun h0 => by obtain ⟨b, o, e, h1, h2⟩ := hC h0; exact ⟨b, o, e, h1, by have := hW.size; omega, fun j x hx => ((hB0.trans (hW.mono (by omega))).cell (p := ⟨b, _, none⟩) h1).trans (h2 j x hx)⟩)
      (by have := hW.size; omega) (by have := hW.size; omega) (by have := hW.size; omega)
      ((hW.cell (p := ⟨_, _, none⟩) (by dsimp only; omega)).trans m1) ((hW.cell (p := ⟨_, _, none⟩) (by dsimp only; omega)).trans m2) ((hW.cell (p := ⟨_, _, none⟩) (by dsimp only; omega)).trans m4) ((hW.cell (p := ⟨_, _, none⟩) (by dsimp only; omega)).trans m5) ((hW.cell (p := ⟨_, _, none⟩) (by dsimp only; omega)).trans m6) ((hW.cell (p := ⟨_, _, none⟩) (by dsimp only; omega)).trans m7) ((hW.cell (p := ⟨_, _, none⟩) (by dsimp only; omega)).trans m8)
      ((hW.cell (p := ⟨_, _, none⟩) (by dsimp only; omega)).trans k2) h0
  refine wpIn_rangeFunc_ownH rfl (by omega) (gf := 89) (lb := #[.pointer (some ⟨w.heap.size + 1 + 1 + 1 + 1, 0, none⟩), .pointer (some ⟨w.heap.size + 1 + 1 + 1 + 1 + 1, 0, none⟩)]) rfl trivial (enters_of Tryd.func89 (by kernel_rfl) rfl)
    hseq KpF.t (KpF.b (by omega) (by omega) (by omega)) (Below.refl _ _) (fun _ => rfl)
    (fun pre W => ((W.cell? ⟨w.heap.size + 1 + 1 + 1, 0, none⟩ = some (.int .i64 (fluxW (p0, p1) 0 pre)) ∧ W.frozen? ⟨w.heap.size + 1 + 1 + 1, 0, none⟩ = false) ∧ (W.cell? ⟨w.heap.size + 1 + 1, 0, none⟩ = some (.int .i64 p0) ∧ W.cell? ⟨w.heap.size + 1 + 1, 1, none⟩ = some (.int .i64 p1))) ∧ (Below w.heap.size w W ∧ W0.heap.size ≤ W.heap.size))
    (fun _ _ _ => False)
    (OwnFrom.and (OwnFrom.and (Own.from (fun s X Y row hs hg hr => ⟨cell_kept hs.1 hg hr, (frozen_kept hs.1 hg hr).trans hs.2⟩) _) (Own.from (fun s X Y row hs hg hr => ⟨cell_kept hs.1 hg hr, cell_kept hs.2 hg hr⟩) _)) (OwnFrom.and (ownFrom_below (Nat.le_refl _) (by omega)) (fun _ _ _ _ hs hg _ => Nat.le_trans hs hg.size)))
    (fun _ _ _ _ _ hs _ _ => hs)
    ⟨⟨⟨s0, sf⟩, q0, q1⟩, hB0, Nat.le_refl _⟩
    (fun x a' W => ∃ Bx, W0.heap.size ≤ Bx ∧ Bx < W.heap.size ∧ (W.cell? ⟨Bx, 0, none⟩ = some (.int .i64 x.1.1) ∧ W.cell? ⟨Bx, 1, none⟩ = some (.int .i64 x.1.2)) ∧ a' = { tmps := #[.agg #[.string name, .slice A 0 ca, .slice B 0 cb, .slice Cl lc cl, .int .i64 g.r, .int .i64 g.z, .int .i64 g.nr, .int .i64 g.nz, .int .i64 g.step, .slice D ld cd], .agg #[.slice A1 na qa, .slice B1 nb qb, .slice C len cap], .agg #[.int .i64 p0, .int .i64 p1], .pointer (some ⟨w.heap.size, 0, none⟩), .pointer (some ⟨w.heap.size + 1, 0, none⟩), .pointer (some ⟨w.heap.size + 1 + 1, 0, none⟩), .int .i64 0, .pointer (some ⟨w.heap.size + 1 + 1 + 1, 0, none⟩), .pointer (some ⟨Bx, 0, none⟩), .int .i64 x.2, .agg #[.string name, .slice A 0 ca, .slice B 0 cb, .slice Cl lc cl, .int .i64 g.r, .int .i64 g.z, .int .i64 g.nr, .int .i64 g.nz, .int .i64 g.step, .slice D ld cd], .agg #[.slice A1 na qa, .slice B1 nb qb, .slice C len cap], .func (.func 89) #[] #[.pointer (some ⟨w.heap.size + 1 + 1 + 1 + 1, 0, none⟩), .pointer (some ⟨w.heap.size + 1 + 1 + 1 + 1 + 1, 0, none⟩)], .agg #[.int .i64 x.1.1, .int .i64 x.1.2], .int .i64 x.2, undef, undef, undef, undef, undef, undef, undef, undef], defers := [] })
    (fun x a' _ X Y row hs hg hr => by obtain ⟨Bx, h1, h2, h3, h4⟩ := hs; exact ⟨Bx, h1, Nat.lt_of_lt_of_le h2 hg.size, ⟨cell_kept h3.1 hg (fun r e => (hr r e).2), cell_kept h3.2 hg (fun r e => (hr r e).2)⟩, h4⟩)
    ?assign ?body ?done ?stop
  case assign =>
    rintro l pre x W K hI hK
    have hW := hI.2.2
    gi_wp2
    refine hK _ _ ((KeepsOthers.alloc _ _).from _) (KpF.of_below (by omega) (by omega) (by omega) ((Below.refl _ W).alloc (Nat.le_refl _) _)) ⟨⟨⟨?_, ?_⟩, ?_, ?_⟩, hI.2.1.alloc hI.2.1.size _, by simp; omega⟩ ⟨W.heap.size, hW, by simp, ⟨by go_simp, by go_simp⟩, rfl⟩
    · rw [World.cell?_alloc_old _ _ _ (by dsimp only; omega)]; exact hI.1.1.1
    · rw [World.frozen?_alloc_old _ _ _ (by dsimp only; omega)]; exact hI.1.1.2
    · rw [World.cell?_alloc_old _ _ _ (by dsimp only; omega)]; exact hI.1.2.1
    · rw [World.cell?_alloc_old _ _ _ (by dsimp only; omega)]; exact hI.1.2.2
  case body =>
    rintro l pre x a' W hl' ⟨r, hr⟩ ⟨⟨⟨c0, f0⟩, c1, c2⟩, hB, hW⟩ ⟨Bx, hBx, hBx2, ⟨b0, b1⟩, rfl⟩ hlt
    have hd : 1 ≤ 8 - 1 - 1 := by omega
    have hmx : Tryd.prog.follows .mixedOrders = true := by kernel_rfl
    obtain ⟨⟨xr, xz⟩, xc⟩ := x
    have HX := Lib.hid (HP.out pre ((xr, xz), xc))
    dsimp only at *
    generalize fluxW (p0, p1) 0 pre = S at *
    gi_wp2
    gi_region_with_o (gi_at_call 61; refine (CallsIn.inRound l (callsIn_wide.2 (influence_any _ _ _ _ _))).mono ?_; rintro e w1 ⟨rfl, hb⟩; have d0 := (hb.cell (p := ⟨w.heap.size + 1 + 1 + 1, 0, none⟩) (by first | (show _ < W.heap.size; dsimp only; omega) | (dsimp only; omega))).trans (by first | exact c0 | (rw [World.cell?_drew]; exact c0)); have g0 := (hb.frozen (p := ⟨w.heap.size + 1 + 1 + 1, 0, none⟩) (by first | (show _ < W.heap.size; dsimp only; omega) | (dsimp only; omega))).trans (by first | exact f0 | (rw [World.frozen?_drew]; exact f0)); have d1 := (hb.cell (p := ⟨w.heap.size + 1 + 1, 0, none⟩) (by first | (show _ < W.heap.size; dsimp only; omega) | (dsimp only; omega))).trans (by first | exact c1 | (rw [World.cell?_drew]; exact c1)); have d2 := (hb.cell (p := ⟨w.heap.size + 1 + 1, 1, none⟩) (by first | (show _ < W.heap.size; dsimp only; omega) | (dsimp only; omega))).trans (by first | exact c2 | (rw [World.cell?_drew]; exact c2)); have hs1 := hb.size)
    all_goals gi_wp2
    all_goals (try go_bits)
    all_goals have hb' : Below W.heap.size W w1 := ((Below.refl _ W).drew).trans hb
    all_goals have hs2 := hb'.size
    all_goals exact ⟨(KeepsFrom.of_grownBy (grown_of_below hb') (fun j e => by cases e)).trans ((KeepsOthers.setCell _ _ _).from _), (KpF.of_below (by omega) (by omega) (by omega) hb').t ⟨(Below.refl _ _).setCell (p := ⟨w.heap.size + 1 + 1 + 1, 0, none⟩) (by dsimp only; omega) _, fun b o hbb => World.cell?_setCell_other _ _ _ _ (by intro e; injection e with e1 e2; omega)⟩, ⟨⟨by rw [HX.out]; exact World.cell?_setCell_same' _ _ _ (by rw [d0]; rfl), by rw [World.frozen?_setCell]; exact g0⟩, by rw [World.cell?_setCell_other _ _ _ _ (by intro e; injection e with e1 e2; omega)]; exact d1, by rw [World.cell?_setCell_other _ _ _ _ (by intro e; injection e with e1 e2; omega)]; exact d2⟩, (hB.trans (hb'.mono hB.size)).setCell (p := ⟨w.heap.size + 1 + 1 + 1, 0, none⟩) (by dsimp only; omega) _, by rw [World.size_setCell]; omega⟩
  case done =>
    rintro E ys W hD rfl ⟨⟨⟨c0, _⟩, _⟩, hB, _⟩ hK
    gi_wp2
    refine ⟨by simp, .inl ⟨_, _, rfl, run_takeDeferred hK, ?_⟩⟩
    exact ⟨_, results_tmp rfl _ _ _, rfl, hB.trans (belowK_b (w := w) (Nat.le_refl _) W E _ _ (by omega) hK rfl rfl)⟩
  case stop =>
    rintro E c pre W _ _ h _
    exact h.elim

end Go.Proofs.YtpnoinkiblnplaaDoor
end
section
/- Package machine: ValidCurrents, where the machine is not valid, over this seat's translation (written by mk_vc.py). -/
namespace Go.Proofs.YtpnoinkiblnplaaDoor
set_option linter.unusedVariables false
set_option linter.unusedSimpArgs false
open Go.RowKit Go.Shelf

set_option maxRecDepth 100000 in
set_option maxHeartbeats 16000000 in
theorem valid_case0 (name : ByteArray) (A B C D : Option Addr) (la ca lb cb lc cc ld cd : Nat) (r z nr nz step : Int) (A1 B1 C1 : Option Addr) (na qa nb qb nc qc : Nat) (E N S : Int) (w : World)
    (H0 : Hid (∀ W, Below w.heap.size w W → Calls Tryd.prog 43 #[.agg #[.string name, .slice A la ca, .slice B lb cb, .slice C lc cc, .int .i64 r, .int .i64 z, .int .i64 nr, .int .i64 nz, .int .i64 step, .slice D ld cd]] W (Ret (.int .i64 E) W))) (h0 : (E == 0) = false) :
    Calls Tryd.prog 19 #[.agg #[.string name, .slice A la ca, .slice B lb cb, .slice C lc cc, .int .i64 r, .int .i64 z, .int .i64 nr, .int .i64 nz, .int .i64 step, .slice D ld cd], .agg #[.slice A1 na qa, .slice B1 nb qb, .slice C1 nc qc]] w (Ret (.bool false) w) := by
  go_enter Tryd.func19, Tryd.ntmps19
  go_upto_region 1 with fail
  have HS : Hid (∀ w' : World, Reg (w.heap.size + 1 + 1) ((w.alloc (.cells #[.string name, .slice A la ca, .slice B lb cb, .slice C lc cc, .int .i64 r, .int .i64 z, .int .i64 nr, .int .i64 nz, .int .i64 step, .slice D ld cd] 29)).alloc (.cells #[.slice A1 na qa, .slice B1 nb qb, .slice C1 nc qc] 32)) w' → (Reg (w.heap.size + 1 + 1) ((w.alloc (.cells #[.string name, .slice A la ca, .slice B lb cb, .slice C lc cc, .int .i64 r, .int .i64 z, .int .i64 nr, .int .i64 nz, .int .i64 step, .slice D ld cd] 29)).alloc (.cells #[.slice A1 na qa, .slice B1 nb qb, .slice C1 nc qc] 32)) w' ∧ w'.cell? ⟨w.heap.size, 0, none⟩ = some (.string name) ∧ w'.cell? ⟨w.heap.size, 1, none⟩ = some (.slice A la ca) ∧ w'.cell? ⟨w.heap.size, 2, none⟩ = some (.slice B lb cb) ∧ w'.cell? ⟨w.heap.size, 3, none⟩ = some (.slice C lc cc) ∧ w'.cell? ⟨w.heap.size, 4, none⟩ = some (.int .i64 r) ∧ w'.cell? ⟨w.heap.size, 5, none⟩ = some (.int .i64 z) ∧ w'.cell? ⟨w.heap.size, 6, none⟩ = some (.int .i64 nr) ∧ w'.cell? ⟨w.heap.size, 7, none⟩ = some (.int .i64 nz) ∧ w'.cell? ⟨w.heap.size, 8, none⟩ = some (.int .i64 step) ∧ w'.cell? ⟨w.heap.size, 9, none⟩ = some (.slice D ld cd) ∧ w'.cell? ⟨w.heap.size + 1, 0, none⟩ = some (.slice A1 na qa) ∧ w'.cell? ⟨w.heap.size + 1, 1, none⟩ = some (.slice B1 nb qb) ∧ w'.cell? ⟨w.heap.size + 1, 2, none⟩ = some (.slice C1 nc qc))) := (fun w' h => by (have hc := h.cells; have hs := h.some; have hf := h.frozen; refine ⟨h, ?_⟩; (try simp only [World.size_alloc, World.size_setCell, size_drew, size_drewN] at hc hs hf); first | (simp (disch := omega) only [hc, hs, hf, cur_iff]; (try go_simp); done) | (simp (disch := first | omega | (simp; done)) only [hc, hs, hf, cur_iff]; (try go_simp); done) | (simp (maxDischargeDepth := 4) [hc, hs, hf, cur_iff, go_sem]; done) | (go_simp; done) | (simp (maxDischargeDepth := 4) [hc, hs, hf, cur_iff, go_sem]; go_simp)))
  refine wp_region_held_drew (S := fun w' => Reg (w.heap.size + 1 + 1) ((w.alloc (.cells #[.string name, .slice A la ca, .slice B lb cb, .slice C lc cc, .int .i64 r, .int .i64 z, .int .i64 nr, .int .i64 nz, .int .i64 step, .slice D ld cd] 29)).alloc (.cells #[.slice A1 na qa, .slice B1 nb qb, .slice C1 nc qc] 32)) w' ∧ w'.cell? ⟨w.heap.size, 0, none⟩ = some (.string name) ∧ w'.cell? ⟨w.heap.size, 1, none⟩ = some (.slice A la ca) ∧ w'.cell? ⟨w.heap.size, 2, none⟩ = some (.slice B lb cb) ∧ w'.cell? ⟨w.heap.size, 3, none⟩ = some (.slice C lc cc) ∧ w'.cell? ⟨w.heap.size, 4, none⟩ = some (.int .i64 r) ∧ w'.cell? ⟨w.heap.size, 5, none⟩ = some (.int .i64 z) ∧ w'.cell? ⟨w.heap.size, 6, none⟩ = some (.int .i64 nr) ∧ w'.cell? ⟨w.heap.size, 7, none⟩ = some (.int .i64 nz) ∧ w'.cell? ⟨w.heap.size, 8, none⟩ = some (.int .i64 step) ∧ w'.cell? ⟨w.heap.size, 9, none⟩ = some (.slice D ld cd) ∧ w'.cell? ⟨w.heap.size + 1, 0, none⟩ = some (.slice A1 na qa) ∧ w'.cell? ⟨w.heap.size + 1, 1, none⟩ = some (.slice B1 nb qb) ∧ w'.cell? ⟨w.heap.size + 1, 2, none⟩ = some (.slice C1 nc qc)) (by kernel_rfl) (HS.out _ (by (repeat first | with_reducible exact Reg.refl _ _ | with_reducible exact Reg.drewN2 _ _ _ _ | with_reducible exact (‹Reg _ _ _ ∧ _›).1 | (with_reducible refine Reg.setCell ?_ ?_ _; rotate_left; exact (by first | omega | ((try simp only [World.size_alloc, World.size_setCell, size_drew, size_drewN]); omega) | (simp; done) | (simp; omega))) | with_reducible refine Reg.alloc ?_ _ | with_reducible refine Reg.drew ?_ | with_reducible refine Reg.drewN ?_ _ | (with_reducible apply Reg.call; rotate_left; with_reducible assumption)))) (fun hHeld => ?_)
  refine wpAnyH_takeD (i := 0) (v := (.agg #[.string name, .slice A la ca, .slice B lb cb, .slice C lc cc, .int .i64 r, .int .i64 z, .int .i64 nr, .int .i64 nz, .int .i64 step, .slice D ld cd])) (some 5) rfl rfl (by kernel_rfl) (by kernel_rfl) (by kernel_rfl) (fun _ _ _ h => h) (Or.inl ⟨by rfl, fun w' hSw => (by (try dsimp only at hSw); go_simp)⟩) (by assumption) ?_; (try simp only [Act.put, List.setIfInBounds_toArray, List.set_cons_zero, List.set_cons_succ])
  refine wpAnyH_ready (rs := [1]) (by kernel_rfl) (by simp) ?_; refine AllReadyH.cons rfl (fun K hK => ?_) AllReadyH.nil; go_simp; (go_at_call 43; refine (H0.out _ (Reg.out (‹Reg _ _ _ ∧ _›).1 (by (repeat first | with_reducible exact Below.refl _ _ | with_reducible assumption | (with_reducible refine Below.setCell ?_ ?_ _; rotate_left; exact (by first | omega | (simp; done) | (simp; omega))) | (with_reducible refine Below.alloc ?_ ?_ _; rotate_left; exact (by first | omega | (simp; done) | (simp; omega))) | with_reducible refine Below.drew ?_ | with_reducible refine Below_drewN ?_ _)) (by first | omega | (simp; done) | (simp; omega)))).mono ?_; rintro e w1 ⟨rfl, hb⟩; (first | (with_reducible have hk := Nat.lt_of_lt_of_le (size_alloc_lt _ _) hb.size) | (with_reducible have hk := Nat.lt_of_lt_of_le (size_alloc_drew_lt _ _) hb.size) | (with_reducible have hk := Nat.lt_of_lt_of_le hk hb.size) | skip); (try simp only [World.size_alloc, World.size_setCell, size_drew, size_drewN] at hk); obtain ⟨hc, hf⟩ := bcell hb; have hs := hb.size; (try simp only [World.size_alloc, World.size_setCell, size_drew, size_drewN] at hs)); refine hK.out _ _ (by (try dsimp only); exact HS.out _ (by (repeat first | with_reducible exact Reg.refl _ _ | with_reducible exact Reg.drewN2 _ _ _ _ | with_reducible exact (‹Reg _ _ _ ∧ _›).1 | (with_reducible refine Reg.setCell ?_ ?_ _; rotate_left; exact (by first | omega | ((try simp only [World.size_alloc, World.size_setCell, size_drew, size_drewN]); omega) | (simp; done) | (simp; omega))) | with_reducible refine Reg.alloc ?_ _ | with_reducible refine Reg.drew ?_ | with_reducible refine Reg.drewN ?_ _ | (with_reducible apply Reg.call; rotate_left; with_reducible assumption)))) (fun hHeld => ?_); clear hK K; (try simp only [Act.put, List.setIfInBounds_toArray, List.set_cons_zero, List.set_cons_succ])
  refine wpAnyH_takeD (i := 2) (v := (.bool false)) (some 7) rfl rfl (by kernel_rfl) (by kernel_rfl) (by kernel_rfl) (fun _ _ _ h => h) (Or.inl ⟨by rfl, fun w' hSw => (by (try dsimp only at hSw); go_simp)⟩) (by assumption) ?_; (try simp only [Act.put, List.setIfInBounds_toArray, List.set_cons_zero, List.set_cons_succ])
  refine wpAnyH_takeD (i := 3) (v := (.bool false)) (some 8) rfl rfl (by kernel_rfl) (by kernel_rfl) (by kernel_rfl) (fun _ _ _ h => h) (Or.inl ⟨by rfl, fun w' hSw => (by (try dsimp only at hSw); go_simp)⟩) (by assumption) ?_; (try simp only [Act.put, List.setIfInBounds_toArray, List.set_cons_zero, List.set_cons_succ])
  refine wpAnyH_takeD (i := 4) (v := undef) (some 9) rfl rfl (by kernel_rfl) (by kernel_rfl) (by kernel_rfl) (fun _ _ _ h => h) (Or.inr ⟨by rfl, rfl⟩) (by assumption) ?_; (try simp only [Act.put, List.setIfInBounds_toArray, List.set_cons_zero, List.set_cons_succ])
  refine wpAnyH_takeD (i := 5) (v := undef) (some 10) rfl rfl (by kernel_rfl) (by kernel_rfl) (by kernel_rfl) (fun _ _ _ h => h) (Or.inr ⟨by rfl, rfl⟩) (by assumption) ?_; (try simp only [Act.put, List.setIfInBounds_toArray, List.set_cons_zero, List.set_cons_succ])
  refine wpAnyH_takeD (i := 6) (v := undef) (some 11) rfl rfl (by kernel_rfl) (by kernel_rfl) (by kernel_rfl) (fun _ _ _ h => h) (Or.inr ⟨by rfl, rfl⟩) (by assumption) ?_; (try simp only [Act.put, List.setIfInBounds_toArray, List.set_cons_zero, List.set_cons_succ])
  refine wpAnyH_takeD (i := 7) (v := undef) (some 12) rfl rfl (by kernel_rfl) (by kernel_rfl) (by kernel_rfl) (fun _ _ _ h => h) (Or.inr ⟨by rfl, rfl⟩) (by assumption) ?_; (try simp only [Act.put, List.setIfInBounds_toArray, List.set_cons_zero, List.set_cons_succ])
  refine wpAnyH_takeD (i := 8) (v := undef) (some 13) rfl rfl (by kernel_rfl) (by kernel_rfl) (by kernel_rfl) (fun _ _ _ h => h) (Or.inr ⟨by rfl, rfl⟩) (by assumption) ?_; (try simp only [Act.put, List.setIfInBounds_toArray, List.set_cons_zero, List.set_cons_succ])
  refine wpAnyH_takeD (i := 9) (v := undef) (some 14) rfl rfl (by kernel_rfl) (by kernel_rfl) (by kernel_rfl) (fun _ _ _ h => h) (Or.inr ⟨by rfl, rfl⟩) (by assumption) ?_; (try simp only [Act.put, List.setIfInBounds_toArray, List.set_cons_zero, List.set_cons_succ])
  refine wpAnyH_takeD (i := 10) (v := undef) (some 15) rfl rfl (by kernel_rfl) (by kernel_rfl) (by kernel_rfl) (fun _ _ _ h => h) (Or.inr ⟨by rfl, rfl⟩) (by assumption) ?_; (try simp only [Act.put, List.setIfInBounds_toArray, List.set_cons_zero, List.set_cons_succ])
  refine wpAnyH_takeD (i := 11) (v := (.bool false)) (some 16) rfl rfl (by kernel_rfl) (by kernel_rfl) (by kernel_rfl) (fun _ _ _ h => h) (Or.inl ⟨by rfl, fun w' hSw => (by (try dsimp only at hSw); go_simp)⟩) (by assumption) ?_; (try simp only [Act.put, List.setIfInBounds_toArray, List.set_cons_zero, List.set_cons_succ])
  refine wpAnyH_takeD (i := 12) (v := (.bool false)) (some 17) rfl rfl (by kernel_rfl) (by kernel_rfl) (by kernel_rfl) (fun _ _ _ h => h) (Or.inl ⟨by rfl, fun w' hSw => (by (try dsimp only at hSw); go_simp)⟩) (by assumption) ?_; (try simp only [Act.put, List.setIfInBounds_toArray, List.set_cons_zero, List.set_cons_succ])
  refine wpAnyH_takeD (i := 13) (v := undef) (some 18) rfl rfl (by kernel_rfl) (by kernel_rfl) (by kernel_rfl) (fun _ _ _ h => h) (Or.inr ⟨by rfl, rfl⟩) (by assumption) ?_; (try simp only [Act.put, List.setIfInBounds_toArray, List.set_cons_zero, List.set_cons_succ])
  refine wpAnyH_takeD (i := 14) (v := undef) (some 19) rfl rfl (by kernel_rfl) (by kernel_rfl) (by kernel_rfl) (fun _ _ _ h => h) (Or.inr ⟨by rfl, rfl⟩) (by assumption) ?_; (try simp only [Act.put, List.setIfInBounds_toArray, List.set_cons_zero, List.set_cons_succ])
  refine wpAnyH_ready (rs := [15]) (by kernel_rfl) (by simp) ?_; refine AllReadyH.cons rfl (fun K hK => ?_) AllReadyH.nil; go_simp; refine hK.out _ _ (by assumption) (fun hHeld => ?_); clear hK K; (try simp only [Act.put, List.setIfInBounds_toArray, List.set_cons_zero, List.set_cons_succ])
  refine wpAnyH_takeD (i := 16) (v := (.bool false)) (some 21) rfl rfl (by kernel_rfl) (by kernel_rfl) (by kernel_rfl) (fun _ _ _ h => h) (Or.inl ⟨by rfl, fun w' hSw => (by (try dsimp only at hSw); go_simp)⟩) (by assumption) ?_; (try simp only [Act.put, List.setIfInBounds_toArray, List.set_cons_zero, List.set_cons_succ])
  refine wpAnyH_takeD (i := 17) (v := (.bool false)) (some 22) rfl rfl (by kernel_rfl) (by kernel_rfl) (by kernel_rfl) (fun _ _ _ h => h) (Or.inl ⟨by rfl, fun w' hSw => (by (try dsimp only at hSw); go_simp)⟩) (by assumption) ?_; (try simp only [Act.put, List.setIfInBounds_toArray, List.set_cons_zero, List.set_cons_succ])
  refine wpAnyH_takeD (i := 18) (v := undef) (some 23) rfl rfl (by kernel_rfl) (by kernel_rfl) (by kernel_rfl) (fun _ _ _ h => h) (Or.inr ⟨by rfl, rfl⟩) (by assumption) ?_; (try simp only [Act.put, List.setIfInBounds_toArray, List.set_cons_zero, List.set_cons_succ])
  refine wpAnyH_takeD (i := 19) (v := undef) (some 24) rfl rfl (by kernel_rfl) (by kernel_rfl) (by kernel_rfl) (fun _ _ _ h => h) (Or.inr ⟨by rfl, rfl⟩) (by assumption) ?_; (try simp only [Act.put, List.setIfInBounds_toArray, List.set_cons_zero, List.set_cons_succ])
  refine wpAnyH_takeD (i := 20) (v := undef) (some 25) rfl rfl (by kernel_rfl) (by kernel_rfl) (by kernel_rfl) (fun _ _ _ h => h) (Or.inr ⟨by rfl, rfl⟩) (by assumption) ?_; (try simp only [Act.put, List.setIfInBounds_toArray, List.set_cons_zero, List.set_cons_succ])
  refine wpAnyH_takeD (i := 21) (v := undef) (some 26) rfl rfl (by kernel_rfl) (by kernel_rfl) (by kernel_rfl) (fun _ _ _ h => h) (Or.inr ⟨by rfl, rfl⟩) (by assumption) ?_; (try simp only [Act.put, List.setIfInBounds_toArray, List.set_cons_zero, List.set_cons_succ])
  refine wpAnyH_takeD (i := 22) (v := undef) (some 27) rfl rfl (by kernel_rfl) (by kernel_rfl) (by kernel_rfl) (fun _ _ _ h => h) (Or.inr ⟨by rfl, rfl⟩) (by assumption) ?_; (try simp only [Act.put, List.setIfInBounds_toArray, List.set_cons_zero, List.set_cons_succ])
  refine wpAnyH_takeD (i := 23) (v := undef) (some 28) rfl rfl (by kernel_rfl) (by kernel_rfl) (by kernel_rfl) (fun _ _ _ h => h) (Or.inr ⟨by rfl, rfl⟩) (by assumption) ?_; (try simp only [Act.put, List.setIfInBounds_toArray, List.set_cons_zero, List.set_cons_succ])
  refine wpAnyH_takeD (i := 24) (v := undef) (some 29) rfl rfl (by kernel_rfl) (by kernel_rfl) (by kernel_rfl) (fun _ _ _ h => h) (Or.inr ⟨by rfl, rfl⟩) (by assumption) ?_; (try simp only [Act.put, List.setIfInBounds_toArray, List.set_cons_zero, List.set_cons_succ])
  refine wpAnyH_takeD (i := 25) (v := (.bool false)) (some 30) rfl rfl (by kernel_rfl) (by kernel_rfl) (by kernel_rfl) (fun _ _ _ h => h) (Or.inl ⟨by rfl, fun w' hSw => (by (try dsimp only at hSw); go_simp)⟩) (by assumption) ?_; (try simp only [Act.put, List.setIfInBounds_toArray, List.set_cons_zero, List.set_cons_succ])
  refine wpAnyH_takeD (i := 26) (v := (.bool false)) (some 31) rfl rfl (by kernel_rfl) (by kernel_rfl) (by kernel_rfl) (fun _ _ _ h => h) (Or.inl ⟨by rfl, fun w' hSw => (by (try dsimp only at hSw); go_simp)⟩) (by assumption) ?_; (try simp only [Act.put, List.setIfInBounds_toArray, List.set_cons_zero, List.set_cons_succ])
  refine wpAnyH_takeD (i := 27) (v := undef) (some 32) rfl rfl (by kernel_rfl) (by kernel_rfl) (by kernel_rfl) (fun _ _ _ h => h) (Or.inr ⟨by rfl, rfl⟩) (by assumption) ?_; (try simp only [Act.put, List.setIfInBounds_toArray, List.set_cons_zero, List.set_cons_succ])
  refine wpAnyH_takeD (i := 28) (v := undef) (some 33) rfl rfl (by kernel_rfl) (by kernel_rfl) (by kernel_rfl) (fun _ _ _ h => h) (Or.inr ⟨by rfl, rfl⟩) (by assumption) ?_; (try simp only [Act.put, List.setIfInBounds_toArray, List.set_cons_zero, List.set_cons_succ])
  refine wpAnyH_ready (rs := [29]) (by kernel_rfl) (by simp) ?_; refine AllReadyH.cons rfl (fun K hK => ?_) AllReadyH.nil; go_simp; refine hK.out _ _ (by assumption) (fun hHeld => ?_); clear hK K; (try simp only [Act.put, List.setIfInBounds_toArray, List.set_cons_zero, List.set_cons_succ])
  refine wpAnyH_takeD (i := 30) (v := (.bool false)) (some 35) rfl rfl (by kernel_rfl) (by kernel_rfl) (by kernel_rfl) (fun _ _ _ h => h) (Or.inl ⟨by rfl, fun w' hSw => (by (try dsimp only at hSw); go_simp)⟩) (by assumption) ?_; (try simp only [Act.put, List.setIfInBounds_toArray, List.set_cons_zero, List.set_cons_succ])
  refine wpAnyH_takeD (i := 31) (v := (.bool false)) (some 36) rfl rfl (by kernel_rfl) (by kernel_rfl) (by kernel_rfl) (fun _ _ _ h => h) (Or.inl ⟨by rfl, fun w' hSw => (by (try dsimp only at hSw); go_simp)⟩) (by assumption) ?_; (try simp only [Act.put, List.setIfInBounds_toArray, List.set_cons_zero, List.set_cons_succ])
  refine wpAnyH_takeD (i := 32) (v := undef) (some 37) rfl rfl (by kernel_rfl) (by kernel_rfl) (by kernel_rfl) (fun _ _ _ h => h) (Or.inr ⟨by rfl, rfl⟩) (by assumption) ?_; (try simp only [Act.put, List.setIfInBounds_toArray, List.set_cons_zero, List.set_cons_succ])
  refine wpAnyH_takeD (i := 33) (v := undef) (some 38) rfl rfl (by kernel_rfl) (by kernel_rfl) (by kernel_rfl) (fun _ _ _ h => h) (Or.inr ⟨by rfl, rfl⟩) (by assumption) ?_; (try simp only [Act.put, List.setIfInBounds_toArray, List.set_cons_zero, List.set_cons_succ])
  refine wpAnyH_takeD (i := 34) (v := undef) (some 39) rfl rfl (by kernel_rfl) (by kernel_rfl) (by kernel_rfl) (fun _ _ _ h => h) (Or.inr ⟨by rfl, rfl⟩) (by assumption) ?_; (try simp only [Act.put, List.setIfInBounds_toArray, List.set_cons_zero, List.set_cons_succ])
  refine wpAnyH_takeD (i := 35) (v := undef) (some 40) rfl rfl (by kernel_rfl) (by kernel_rfl) (by kernel_rfl) (fun _ _ _ h => h) (Or.inr ⟨by rfl, rfl⟩) (by assumption) ?_; (try simp only [Act.put, List.setIfInBounds_toArray, List.set_cons_zero, List.set_cons_succ])
  refine wpAnyH_takeD (i := 36) (v := undef) (some 41) rfl rfl (by kernel_rfl) (by kernel_rfl) (by kernel_rfl) (fun _ _ _ h => h) (Or.inr ⟨by rfl, rfl⟩) (by assumption) ?_; (try simp only [Act.put, List.setIfInBounds_toArray, List.set_cons_zero, List.set_cons_succ])
  refine wpAnyH_ready (rs := [37]) (by kernel_rfl) (by simp) ?_; refine AllReadyH.cons rfl (fun K hK => ?_) AllReadyH.nil; go_simp; refine hK.out _ _ (by assumption) (fun hHeld => ?_); clear hK K; (try simp only [Act.put, List.setIfInBounds_toArray, List.set_cons_zero, List.set_cons_succ])
  refine wpAnyH_takeD (i := 38) (v := undef) (some 43) rfl rfl (by kernel_rfl) (by kernel_rfl) (by kernel_rfl) (fun _ _ _ h => h) (Or.inr ⟨by rfl, rfl⟩) (by assumption) ?_; (try simp only [Act.put, List.setIfInBounds_toArray, List.set_cons_zero, List.set_cons_succ])
  refine wpAnyH_takeD (i := 39) (v := (.bool false)) (some 44) rfl rfl (by kernel_rfl) (by kernel_rfl) (by kernel_rfl) (fun _ _ _ h => h) (Or.inl ⟨by rfl, fun w' hSw => (by (try dsimp only at hSw); go_simp)⟩) (by assumption) ?_; (try simp only [Act.put, List.setIfInBounds_toArray, List.set_cons_zero, List.set_cons_succ])
  refine wpAnyH_takeD (i := 40) (v := (.bool false)) (some 45) rfl rfl (by kernel_rfl) (by kernel_rfl) (by kernel_rfl) (fun _ _ _ h => h) (Or.inl ⟨by rfl, fun w' hSw => (by (try dsimp only at hSw); go_simp)⟩) (by assumption) ?_; (try simp only [Act.put, List.setIfInBounds_toArray, List.set_cons_zero, List.set_cons_succ])
  refine wpAnyH_takeD (i := 41) (v := undef) (some 46) rfl rfl (by kernel_rfl) (by kernel_rfl) (by kernel_rfl) (fun _ _ _ h => h) (Or.inr ⟨by rfl, rfl⟩) (by assumption) ?_; (try simp only [Act.put, List.setIfInBounds_toArray, List.set_cons_zero, List.set_cons_succ])
  refine wpAnyH_takeD (i := 42) (v := undef) (some 47) rfl rfl (by kernel_rfl) (by kernel_rfl) (by kernel_rfl) (fun _ _ _ h => h) (Or.inr ⟨by rfl, rfl⟩) (by assumption) ?_; (try simp only [Act.put, List.setIfInBounds_toArray, List.set_cons_zero, List.set_cons_succ])
  refine wpAnyH_ready (rs := [43]) (by kernel_rfl) (by simp) ?_; refine AllReadyH.cons rfl (fun K hK => ?_) AllReadyH.nil; go_simp; refine hK.out _ _ (by assumption) (fun hHeld => ?_); clear hK K; (try simp only [Act.put, List.setIfInBounds_toArray, List.set_cons_zero, List.set_cons_succ])
  refine wpAnyH_takeD (i := 44) (v := (.bool false)) (some 49) rfl rfl (by kernel_rfl) (by kernel_rfl) (by kernel_rfl) (fun _ _ _ h => h) (Or.inl ⟨by rfl, fun w' hSw => (by (try dsimp only at hSw); go_simp)⟩) (by assumption) ?_; (try simp only [Act.put, List.setIfInBounds_toArray, List.set_cons_zero, List.set_cons_succ])
  refine wpAnyH_takeD (i := 45) (v := (.bool false)) (some 50) rfl rfl (by kernel_rfl) (by kernel_rfl) (by kernel_rfl) (fun _ _ _ h => h) (Or.inl ⟨by rfl, fun w' hSw => (by (try dsimp only at hSw); go_simp)⟩) (by assumption) ?_; (try simp only [Act.put, List.setIfInBounds_toArray, List.set_cons_zero, List.set_cons_succ])
  refine wpAnyH_takeD (i := 46) (v := undef) (some 51) rfl rfl (by kernel_rfl) (by kernel_rfl) (by kernel_rfl) (fun _ _ _ h => h) (Or.inr ⟨by rfl, rfl⟩) (by assumption) ?_; (try simp only [Act.put, List.setIfInBounds_toArray, List.set_cons_zero, List.set_cons_succ])
  refine wpAnyH_ready (rs := [47]) (by kernel_rfl) (by simp) ?_; refine AllReadyH.cons rfl (fun K hK => ?_) AllReadyH.nil; go_simp; refine hK.out _ _ (by assumption) (fun hHeld => ?_); clear hK K; (try simp only [Act.put, List.setIfInBounds_toArray, List.set_cons_zero, List.set_cons_succ])
  refine wpAnyH_takeD (i := 48) (v := undef) (some 53) rfl rfl (by kernel_rfl) (by kernel_rfl) (by kernel_rfl) (fun _ _ _ h => h) (Or.inr ⟨by rfl, rfl⟩) (by assumption) ?_; (try simp only [Act.put, List.setIfInBounds_toArray, List.set_cons_zero, List.set_cons_succ])
  refine wpAnyH_takeD (i := 49) (v := (.bool false)) (some 54) rfl rfl (by kernel_rfl) (by kernel_rfl) (by kernel_rfl) (fun _ _ _ h => h) (Or.inl ⟨by rfl, fun w' hSw => (by (try dsimp only at hSw); go_simp)⟩) (by assumption) ?_; (try simp only [Act.put, List.setIfInBounds_toArray, List.set_cons_zero, List.set_cons_succ])
  refine wpAnyH_takeD (i := 50) (v := (.bool false)) (some 4) rfl rfl (by kernel_rfl) (by kernel_rfl) (by kernel_rfl) (fun _ _ _ h => h) (Or.inl ⟨by rfl, fun w' hSw => (by (try dsimp only at hSw); go_simp)⟩) (by assumption) ?_; (try simp only [Act.put, List.setIfInBounds_toArray, List.set_cons_zero, List.set_cons_succ])
  refine wpAnyH_done (by kernel_rfl) ?_ _
  go_wp2
  go_ret
  exact ⟨rfl, Reg.out hHeld.1 (by (repeat first | with_reducible exact Below.refl _ _ | with_reducible assumption | (with_reducible refine Below.setCell ?_ ?_ _; rotate_left; exact (by first | omega | (simp; done) | (simp; omega))) | (with_reducible refine Below.alloc ?_ ?_ _; rotate_left; exact (by first | omega | (simp; done) | (simp; omega))) | with_reducible refine Below.drew ?_ | with_reducible refine Below_drewN ?_ _)) (by first | omega | (simp; done) | (simp; omega))⟩

end Go.Proofs.YtpnoinkiblnplaaDoor
end
