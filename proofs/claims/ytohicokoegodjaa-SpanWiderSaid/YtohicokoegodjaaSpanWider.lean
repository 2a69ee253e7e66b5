/- Proved: for every Pair of two spans and two numbers the law SpanWider returns true (results grow with their arguments), and the argument reads afterwards as before; no conditions. -/
import Derived.Test.YtohicokoegodjaaSpanQ
import Derived.Deep.RegionWith
import Derived.Test.YtohicokoegodjaaSpanM
import Derived.Test.YtohicokoegodjaaSpanFP
namespace Go.Proofs.Ytohicokoegodjaa.lawSpanWider
set_option linter.unusedVariables false
set_option linter.unusedSimpArgs false
open Go.ChangeShapes Go.WideShapes Go.ChangeAt Go.RowKit Go.Joins

/-- wpAnyH_take with the operation's place for its result written out. -/
theorem wpAnyH_takeD {P : Program} {md : Region.Mode} {ops : Array Oper} {Q : Exit → Act → World → Prop} {S : World → Prop} {i : Nat} {oi : Oper} {v : Value} {fuel : Nat} {listed : Array Bool} {a : Act} {w : World} (d : Option Tmp) (hi : ops[i]? = some oi) (hd : oi.dst = d)
    (hs : Region.noSelect ops = true) (hf : Region.free md ops listed i = true) (hr : (Region.ready md ops listed).contains i = true)
    (hQ : ∀ c a w, Q (.panic c) (a.put d v) w → Q (.panic c) a w) (hy : YieldsIf P ops S oi v a) (hS : S w)
    (h : wpAnyH P md ops Q S fuel (listed.setIfInBounds i true) (a.put d v) w) : wpAnyH P md ops Q S (fuel + 1) listed a w := by
  subst hd
  exact wpAnyH_take hi hs hf hr hQ hy hS h

theorem widen_ok {a b n : Int} (h : (widenL a b n).2.2 = 0) : vld a b = true ∧ vld (widenL a b n).1 (widenL a b n).2.1 = true ∧ (widenL a b n).1 ≤ a ∧ b ≤ (widenL a b n).2.1 := by
  unfold widenL at *
  by_cases v : vld a b = true
  · rw [if_pos v] at *
    have o := vld_iff.1 v
    by_cases hn : 0 ≤ n ∧ n ≤ 1000000000000000
    · rw [if_pos hn] at *
      refine ⟨v, vld_iff.2 ?_, ?_, ?_⟩ <;> dsimp only <;> omega
    · rw [if_neg hn] at h
      exact absurd h (by decide)
  · rw [if_neg v] at h
    exact absurd h (by decide)

theorem inside_is {a b c d : Int} {v : Bool} (h : insd a b c d = v) (w : World) : Calls Try.prog 15 #[Sp a b, Sp c d] w (Ret (.bool v) w) := by rw [← h]; exact inside_any a b c d w

set_option maxRecDepth 100000 in
set_option maxHeartbeats 8000000 in
theorem walk (a b c d m n : Int) (wa : (Lit.int .i64 a).wf = true) (wb : (Lit.int .i64 b).wf = true) (wc : (Lit.int .i64 c).wf = true) (wd : (Lit.int .i64 d).wf = true) (wm : (Lit.int .i64 m).wf = true) (wn : (Lit.int .i64 n).wf = true) (w : World) :
    Calls Try.prog 9 #[Pv a b c d m n] w (Ret (.bool true) w) := by
  clear wa wb wc wd wm wn
  go_enter Try.func9, Try.ntmps9
  go_upto_region 1 with fail; go_cut [3, 4, 5, 6] (fun s3 s4 s5 s6 wx => ∃ x y : Nat, s3 = .pointer (some ⟨x, 0, none⟩) ∧ s4 = .pointer (some ⟨y, 0, none⟩) ∧ s5 = .int .i64 m ∧ s6 = .int .i64 n ∧ w.heap.size < x ∧ w.heap.size < y ∧ x < wx.heap.size ∧ y < wx.heap.size ∧ Below w.heap.size w wx ∧ wx.cell? ⟨x, 0, none⟩ = some (.int .i64 a) ∧ wx.cell? ⟨x, 1, none⟩ = some (.int .i64 b) ∧ wx.cell? ⟨y, 0, none⟩ = some (.int .i64 c) ∧ wx.cell? ⟨y, 1, none⟩ = some (.int .i64 d))
  case first =>
    have HS : Hid (∀ w' : World, Reg (w.heap.size + 1) (w.alloc (.cells #[.int .i64 a, .int .i64 b, .int .i64 c, .int .i64 d, .int .i64 m, .int .i64 n] 40)) w' → (Reg (w.heap.size + 1) (w.alloc (.cells #[.int .i64 a, .int .i64 b, .int .i64 c, .int .i64 d, .int .i64 m, .int .i64 n] 40)) w' ∧ w'.cell? ⟨w.heap.size, 0, none⟩ = some (.int .i64 a) ∧ w'.cell? ⟨w.heap.size, 1, none⟩ = some (.int .i64 b) ∧ w'.cell? ⟨w.heap.size, 2, none⟩ = some (.int .i64 c) ∧ w'.cell? ⟨w.heap.size, 3, none⟩ = some (.int .i64 d) ∧ w'.cell? ⟨w.heap.size, 4, none⟩ = some (.int .i64 m) ∧ w'.cell? ⟨w.heap.size, 5, none⟩ = some (.int .i64 n))) := (fun w' h => by (have hc := h.cells; have hs := h.some; have hf := h.frozen; refine ⟨h, ?_⟩; (try simp only [World.size_alloc, World.size_setCell, size_drew, size_drewN] at hc hs hf); first | (simp (disch := omega) only [hc, hs, hf, cur_iff]; (try go_simp); done) | (simp (disch := first | omega | (simp; done)) only [hc, hs, hf, cur_iff]; (try go_simp); done) | (simp (maxDischargeDepth := 4) [hc, hs, hf, cur_iff, go_sem]; done) | (go_simp; done) | (simp (maxDischargeDepth := 4) [hc, hs, hf, cur_iff, go_sem]; go_simp))); go_region_held3 (fun w' => Reg (w.heap.size + 1) (w.alloc (.cells #[.int .i64 a, .int .i64 b, .int .i64 c, .int .i64 d, .int .i64 m, .int .i64 n] 40)) w' ∧ w'.cell? ⟨w.heap.size, 0, none⟩ = some (.int .i64 a) ∧ w'.cell? ⟨w.heap.size, 1, none⟩ = some (.int .i64 b) ∧ w'.cell? ⟨w.heap.size, 2, none⟩ = some (.int .i64 c) ∧ w'.cell? ⟨w.heap.size, 3, none⟩ = some (.int .i64 d) ∧ w'.cell? ⟨w.heap.size, 4, none⟩ = some (.int .i64 m) ∧ w'.cell? ⟨w.heap.size, 5, none⟩ = some (.int .i64 n)) (exact HS.out _ (by (repeat first | with_reducible exact Reg.refl _ _ | with_reducible exact Reg.drewN2 _ _ _ _ | with_reducible exact (‹Reg _ _ _ ∧ _›).1 | (with_reducible refine Reg.setCell ?_ ?_ _; rotate_left; exact (by first | omega | ((try simp only [World.size_alloc, World.size_setCell, size_drew, size_drewN]); omega) | (simp; done) | (simp; omega))) | with_reducible refine Reg.alloc ?_ _ | with_reducible refine Reg.drew ?_ | with_reducible refine Reg.drewN ?_ _ | (with_reducible apply Reg.call; rotate_left; with_reducible assumption)))) (first | fail); all_goals go_wp2_with fail; all_goals go_meet; all_goals exact ⟨_, _, rfl, rfl, rfl, rfl, (by first | omega | ((try simp only [World.size_alloc, World.size_setCell, size_drew, size_drewN]); omega) | (simp; done) | (simp; omega)), (by first | omega | ((try simp only [World.size_alloc, World.size_setCell, size_drew, size_drewN]); omega) | (simp; done) | (simp; omega)), (by first | omega | ((try simp only [World.size_alloc, World.size_setCell, size_drew, size_drewN]); omega) | (simp; done) | (simp; omega)), (by first | omega | ((try simp only [World.size_alloc, World.size_setCell, size_drew, size_drewN]); omega) | (simp; done) | (simp; omega)), (Reg.out (‹Reg _ _ _ ∧ _›).1 (by (repeat first | with_reducible exact Below.refl _ _ | with_reducible assumption | (with_reducible refine Below.setCell ?_ ?_ _; rotate_left; exact (by first | omega | (simp; done) | (simp; omega))) | (with_reducible refine Below.alloc ?_ ?_ _; rotate_left; exact (by first | omega | (simp; done) | (simp; omega))) | with_reducible refine Below.drew ?_ | with_reducible refine Below_drewN ?_ _)) (by first | omega | (simp; done) | (simp; omega))), (by go_simp), (by go_simp), (by go_simp), (by go_simp)⟩
  case rest =>
    obtain ⟨x, y, rfl, rfl, rfl, rfl, hxw, hyw, hx, hy, hB, x0, x1, y0, y1⟩ := hcut
    have G1 := Lib.hid (@widen_ok a b m)
    have G2 := Lib.hid (@widen_ok c d n)
    have H1 := Lib.hid (fun W => widen_any a b m W)
    have H2 := Lib.hid (fun W => widen_any c d n W)
    generalize widenL a b m = t1 at *
    generalize widenL c d n = t2 at *
    obtain ⟨a', b', e1⟩ := t1
    obtain ⟨c', d', e2⟩ := t2
    dsimp only at G1 G2 H1 H2
    go_wp2_with fail
    refine (H1.out _).mono ?_
    rintro e w1 ⟨rfl, hb⟩
    have hB : Below w.heap.size w w1 := Below.trans (by (repeat first | with_reducible exact Below.refl _ _ | with_reducible assumption | (with_reducible refine Below.setCell ?_ ?_ _; rotate_left; exact (by first | omega | (simp; done) | (simp; omega))) | (with_reducible refine Below.alloc ?_ ?_ _; rotate_left; exact (by first | omega | (simp; done) | (simp; omega))) | with_reducible refine Below.drew ?_ | with_reducible refine Below_drewN ?_ _)) (hb.mono (by first | omega | ((try simp only [World.size_alloc, World.size_setCell, size_drew, size_drewN]); omega) | (simp; done) | (simp; omega)))
    obtain ⟨hc1, hf1⟩ := bcell hb
    have hs := hb.size
    clear hb
    (try simp only [World.size_alloc, World.size_setCell] at hc1 hf1 hs)
    have : x < w1.heap.size := by omega
    have : y < w1.heap.size := by omega
    go_wp2_with fail
    refine (H2.out _).mono ?_
    rintro e w2 ⟨rfl, hb⟩
    have hB : Below w.heap.size w w2 := Below.trans (by (repeat first | with_reducible exact Below.refl _ _ | with_reducible assumption | (with_reducible refine Below.setCell ?_ ?_ _; rotate_left; exact (by first | omega | (simp; done) | (simp; omega))) | (with_reducible refine Below.alloc ?_ ?_ _; rotate_left; exact (by first | omega | (simp; done) | (simp; omega))) | with_reducible refine Below.drew ?_ | with_reducible refine Below_drewN ?_ _)) (hb.mono (by first | omega | ((try simp only [World.size_alloc, World.size_setCell, size_drew, size_drewN]); omega) | (simp; done) | (simp; omega)))
    obtain ⟨hc2, hf2⟩ := bcell hb
    have hs := hb.size
    clear hb
    (try simp only [World.size_alloc, World.size_setCell] at hc2 hf2 hs)
    have : x < w2.heap.size := by omega
    have : y < w2.heap.size := by omega
    have : w1.heap.size < w2.heap.size := by omega
    by_cases k1 : e1 = 0
    · by_cases k2 : e2 = 0
      · subst k1 k2
        obtain ⟨v1, v3, i1, i2⟩ := G1.out rfl
        obtain ⟨v2, v4, i3, i4⟩ := G2.out rfl
        clear G1 G2 H1 H2
        go_upto_region 4 with fail
        go_cut [40] (fun s40 wx => s40 = .bool false ∧ wx.cell? ⟨x, 0, none⟩ = some (.int .i64 a) ∧ wx.cell? ⟨x, 1, none⟩ = some (.int .i64 b) ∧ wx.cell? ⟨y, 0, none⟩ = some (.int .i64 c) ∧ wx.cell? ⟨y, 1, none⟩ = some (.int .i64 d) ∧ wx.cell? ⟨w1.heap.size, 0, none⟩ = some (.int .i64 a') ∧ wx.cell? ⟨w1.heap.size, 1, none⟩ = some (.int .i64 b') ∧ wx.cell? ⟨w2.heap.size, 0, none⟩ = some (.int .i64 c') ∧ wx.cell? ⟨w2.heap.size, 1, none⟩ = some (.int .i64 d') ∧ x < wx.heap.size ∧ y < wx.heap.size ∧ w1.heap.size < wx.heap.size ∧ w2.heap.size < wx.heap.size ∧ Below w.heap.size w wx ∧ w.heap.size < wx.heap.size)
        case first =>
          go_wp2_with fail
          go_meet
          exact ⟨rfl, (by go_simp), (by go_simp), (by go_simp), (by go_simp), (by go_simp), (by go_simp), (by go_simp), (by go_simp), (by first | omega | ((try simp only [World.size_alloc, World.size_setCell, size_drew, size_drewN]); omega) | (simp; done) | (simp; omega)), (by first | omega | ((try simp only [World.size_alloc, World.size_setCell, size_drew, size_drewN]); omega) | (simp; done) | (simp; omega)), (by first | omega | ((try simp only [World.size_alloc, World.size_setCell, size_drew, size_drewN]); omega) | (simp; done) | (simp; omega)), (by first | omega | ((try simp only [World.size_alloc, World.size_setCell, size_drew, size_drewN]); omega) | (simp; done) | (simp; omega)), (by (repeat first | with_reducible exact Below.refl _ _ | with_reducible assumption | (with_reducible refine Below.setCell ?_ ?_ _; rotate_left; exact (by first | omega | (simp; done) | (simp; omega))) | (with_reducible refine Below.alloc ?_ ?_ _; rotate_left; exact (by first | omega | (simp; done) | (simp; omega))) | with_reducible refine Below.drew ?_ | with_reducible refine Below_drewN ?_ _)), (by first | omega | ((try simp only [World.size_alloc, World.size_setCell, size_drew, size_drewN]); omega) | (simp; done) | (simp; omega))⟩
        case rest =>
          clear hc1 hf1 hc2 hf2
          obtain ⟨rfl, x0, x1, y0, y1, X0, X1, Y0, Y1, hx, hy, hX, hY, hB, hw0⟩ := hcut
          generalize w1.heap.size = X at *
          generalize w2.heap.size = Y at *
          have A1 := Lib.hid (fun W => add_any a b c d W)
          have A2 := Lib.hid (fun W => add_any a' b' c' d' W)
          have AW := Lib.hid (add_wider v1 v2 v3 v4 i1 i2 i3 i4)
          generalize addL a b c d = ta at *
          generalize addL a' b' c' d' = tb at *
          obtain ⟨p1, q1, r1⟩ := ta
          obtain ⟨p1', q1', r1'⟩ := tb
          dsimp only at A1 A2 AW
          go_wp2_with fail
          refine (A1.out _).mono ?_
          rintro e w3 ⟨rfl, hb⟩
          have hB : Below w.heap.size w w3 := Below.trans (by (repeat first | with_reducible exact Below.refl _ _ | with_reducible assumption | (with_reducible refine Below.setCell ?_ ?_ _; rotate_left; exact (by first | omega | (simp; done) | (simp; omega))) | (with_reducible refine Below.alloc ?_ ?_ _; rotate_left; exact (by first | omega | (simp; done) | (simp; omega))) | with_reducible refine Below.drew ?_ | with_reducible refine Below_drewN ?_ _)) (hb.mono (by first | omega | ((try simp only [World.size_alloc, World.size_setCell, size_drew, size_drewN]); omega) | (simp; done) | (simp; omega)))
          obtain ⟨hc3, hf3⟩ := bcell hb
          have hs := hb.size
          clear hb
          (try simp only [World.size_alloc, World.size_setCell] at hc3 hf3 hs)
          have : w.heap.size < w3.heap.size := by omega
          have : x < w3.heap.size := by omega
          have : y < w3.heap.size := by omega
          have : X < w3.heap.size := by omega
          have : Y < w3.heap.size := by omega
          go_wp2_with fail
          refine (A2.out _).mono ?_
          rintro e w4 ⟨rfl, hb⟩
          have hB : Below w.heap.size w w4 := Below.trans (by (repeat first | with_reducible exact Below.refl _ _ | with_reducible assumption | (with_reducible refine Below.setCell ?_ ?_ _; rotate_left; exact (by first | omega | (simp; done) | (simp; omega))) | (with_reducible refine Below.alloc ?_ ?_ _; rotate_left; exact (by first | omega | (simp; done) | (simp; omega))) | with_reducible refine Below.drew ?_ | with_reducible refine Below_drewN ?_ _)) (hb.mono (by first | omega | ((try simp only [World.size_alloc, World.size_setCell, size_drew, size_drewN]); omega) | (simp; done) | (simp; omega)))
          obtain ⟨hc4, hf4⟩ := bcell hb
          have hs := hb.size
          clear hb
          (try simp only [World.size_alloc, World.size_setCell] at hc4 hf4 hs)
          have : w.heap.size < w4.heap.size := by omega
          have : x < w4.heap.size := by omega
          have : y < w4.heap.size := by omega
          have : X < w4.heap.size := by omega
          have : Y < w4.heap.size := by omega
          have : w3.heap.size < w4.heap.size := by omega
          go_upto_region 8 with fail
          go_cut [65] (fun sv wx => sv = .bool false ∧ wx.cell? ⟨x, 0, none⟩ = some (.int .i64 a) ∧ wx.cell? ⟨x, 1, none⟩ = some (.int .i64 b) ∧ wx.cell? ⟨y, 0, none⟩ = some (.int .i64 c) ∧ wx.cell? ⟨y, 1, none⟩ = some (.int .i64 d) ∧ wx.cell? ⟨X, 0, none⟩ = some (.int .i64 a') ∧ wx.cell? ⟨X, 1, none⟩ = some (.int .i64 b') ∧ wx.cell? ⟨Y, 0, none⟩ = some (.int .i64 c') ∧ wx.cell? ⟨Y, 1, none⟩ = some (.int .i64 d') ∧ x < wx.heap.size ∧ y < wx.heap.size ∧ X < wx.heap.size ∧ Y < wx.heap.size ∧ Below w.heap.size w wx ∧ (w3.heap.size < wx.heap.size ∧ (wx).cell? ⟨w3.heap.size, 0, none⟩ = some (cur (wx) ⟨w3.heap.size, 0, none⟩) ∧ (wx).frozen? ⟨w3.heap.size, 0, none⟩ = false ∧ (wx).cell? ⟨w3.heap.size, 1, none⟩ = some (cur (wx) ⟨w3.heap.size, 1, none⟩) ∧ (wx).frozen? ⟨w3.heap.size, 1, none⟩ = false) ∧ (w4.heap.size < wx.heap.size ∧ (wx).cell? ⟨w4.heap.size, 0, none⟩ = some (cur (wx) ⟨w4.heap.size, 0, none⟩) ∧ (wx).frozen? ⟨w4.heap.size, 0, none⟩ = false ∧ (wx).cell? ⟨w4.heap.size, 1, none⟩ = some (cur (wx) ⟨w4.heap.size, 1, none⟩) ∧ (wx).frozen? ⟨w4.heap.size, 1, none⟩ = false) ∧ w.heap.size < wx.heap.size)
          case first =>
            by_cases g2 : r1' = 0
            · by_cases g1 : r1 = 0
              · have HI := Lib.hid (AW.out g2 g1)
                have b1 : (r1 == 0) = true := by simp [g1]
                have b2 : (r1' == 0) = true := by simp [g2]
                have b3 : (r1 != 0) = false := by simp [g1]
                clear g1 g2
                go_wp2_with (first | (go_at_call 15; refine (inside_is HI.out _).mono ?_; rintro e wz ⟨rfl, hb⟩; have hB : Below w.heap.size w wz := Below.trans (by (repeat first | with_reducible exact Below.refl _ _ | with_reducible assumption | (with_reducible refine Below.setCell ?_ ?_ _; rotate_left; exact (by first | omega | (simp; done) | (simp; omega))) | (with_reducible refine Below.alloc ?_ ?_ _; rotate_left; exact (by first | omega | (simp; done) | (simp; omega))) | with_reducible refine Below.drew ?_ | with_reducible refine Below_drewN ?_ _)) (hb.mono (by first | omega | ((try simp only [World.size_alloc, World.size_setCell, size_drew, size_drewN]); omega) | (simp; done) | (simp; omega))); obtain ⟨hc, hf⟩ := bcell hb; have hs := hb.size; clear hb; (try simp only [World.size_alloc, World.size_setCell] at hc hf hs); have : w.heap.size < wz.heap.size := (by omega); have : x < wz.heap.size := (by omega); have : y < wz.heap.size := (by omega); have : X < wz.heap.size := (by omega); have : Y < wz.heap.size := (by omega); have : w3.heap.size < wz.heap.size := (by omega); have : w4.heap.size < wz.heap.size := (by omega)))
                go_meet
                exact ⟨rfl, (by go_simp), (by go_simp), (by go_simp), (by go_simp), (by go_simp), (by go_simp), (by go_simp), (by go_simp), (by first | omega | ((try simp only [World.size_alloc, World.size_setCell, size_drew, size_drewN]); omega) | (simp; done) | (simp; omega)), (by first | omega | ((try simp only [World.size_alloc, World.size_setCell, size_drew, size_drewN]); omega) | (simp; done) | (simp; omega)), (by first | omega | ((try simp only [World.size_alloc, World.size_setCell, size_drew, size_drewN]); omega) | (simp; done) | (simp; omega)), (by first | omega | ((try simp only [World.size_alloc, World.size_setCell, size_drew, size_drewN]); omega) | (simp; done) | (simp; omega)), (by (repeat first | with_reducible exact Below.refl _ _ | with_reducible assumption | (with_reducible refine Below.setCell ?_ ?_ _; rotate_left; exact (by first | omega | (simp; done) | (simp; omega))) | (with_reducible refine Below.alloc ?_ ?_ _; rotate_left; exact (by first | omega | (simp; done) | (simp; omega))) | with_reducible refine Below.drew ?_ | with_reducible refine Below_drewN ?_ _)), ⟨(by first | omega | ((try simp only [World.size_alloc, World.size_setCell, size_drew, size_drewN]); omega) | (simp; done) | (simp; omega)), (by simp only [cur_iff, isSome_setCell]; go_simp), (by go_simp), (by simp only [cur_iff, isSome_setCell]; go_simp), (by go_simp)⟩, ⟨(by first | omega | ((try simp only [World.size_alloc, World.size_setCell, size_drew, size_drewN]); omega) | (simp; done) | (simp; omega)), (by simp only [cur_iff, isSome_setCell]; go_simp), (by go_simp), (by simp only [cur_iff, isSome_setCell]; go_simp), (by go_simp)⟩, (by first | omega | ((try simp only [World.size_alloc, World.size_setCell, size_drew, size_drewN]); omega) | (simp; done) | (simp; omega))⟩
              · have b1 : (r1 == 0) = false := by simp [g1]
                have b2 : (r1' == 0) = true := by simp [g2]
                clear g1 g2
                go_wp2_with fail
                go_meet
                exact ⟨rfl, (by go_simp), (by go_simp), (by go_simp), (by go_simp), (by go_simp), (by go_simp), (by go_simp), (by go_simp), (by first | omega | ((try simp only [World.size_alloc, World.size_setCell, size_drew, size_drewN]); omega) | (simp; done) | (simp; omega)), (by first | omega | ((try simp only [World.size_alloc, World.size_setCell, size_drew, size_drewN]); omega) | (simp; done) | (simp; omega)), (by first | omega | ((try simp only [World.size_alloc, World.size_setCell, size_drew, size_drewN]); omega) | (simp; done) | (simp; omega)), (by first | omega | ((try simp only [World.size_alloc, World.size_setCell, size_drew, size_drewN]); omega) | (simp; done) | (simp; omega)), (by (repeat first | with_reducible exact Below.refl _ _ | with_reducible assumption | (with_reducible refine Below.setCell ?_ ?_ _; rotate_left; exact (by first | omega | (simp; done) | (simp; omega))) | (with_reducible refine Below.alloc ?_ ?_ _; rotate_left; exact (by first | omega | (simp; done) | (simp; omega))) | with_reducible refine Below.drew ?_ | with_reducible refine Below_drewN ?_ _)), ⟨(by first | omega | ((try simp only [World.size_alloc, World.size_setCell, size_drew, size_drewN]); omega) | (simp; done) | (simp; omega)), (by simp only [cur_iff, isSome_setCell]; go_simp), (by go_simp), (by simp only [cur_iff, isSome_setCell]; go_simp), (by go_simp)⟩, ⟨(by first | omega | ((try simp only [World.size_alloc, World.size_setCell, size_drew, size_drewN]); omega) | (simp; done) | (simp; omega)), (by simp only [cur_iff, isSome_setCell]; go_simp), (by go_simp), (by simp only [cur_iff, isSome_setCell]; go_simp), (by go_simp)⟩, (by first | omega | ((try simp only [World.size_alloc, World.size_setCell, size_drew, size_drewN]); omega) | (simp; done) | (simp; omega))⟩
            · have b2 : (r1' == 0) = false := by simp [g2]
              by_cases g1 : r1 = 0
              · have b1 : (r1 == 0) = true := by simp [g1]
                clear g1 g2
                go_wp2_with fail
                go_meet
                exact ⟨rfl, (by go_simp), (by go_simp), (by go_simp), (by go_simp), (by go_simp), (by go_simp), (by go_simp), (by go_simp), (by first | omega | ((try simp only [World.size_alloc, World.size_setCell, size_drew, size_drewN]); omega) | (simp; done) | (simp; omega)), (by first | omega | ((try simp only [World.size_alloc, World.size_setCell, size_drew, size_drewN]); omega) | (simp; done) | (simp; omega)), (by first | omega | ((try simp only [World.size_alloc, World.size_setCell, size_drew, size_drewN]); omega) | (simp; done) | (simp; omega)), (by first | omega | ((try simp only [World.size_alloc, World.size_setCell, size_drew, size_drewN]); omega) | (simp; done) | (simp; omega)), (by (repeat first | with_reducible exact Below.refl _ _ | with_reducible assumption | (with_reducible refine Below.setCell ?_ ?_ _; rotate_left; exact (by first | omega | (simp; done) | (simp; omega))) | (with_reducible refine Below.alloc ?_ ?_ _; rotate_left; exact (by first | omega | (simp; done) | (simp; omega))) | with_reducible refine Below.drew ?_ | with_reducible refine Below_drewN ?_ _)), ⟨(by first | omega | ((try simp only [World.size_alloc, World.size_setCell, size_drew, size_drewN]); omega) | (simp; done) | (simp; omega)), (by simp only [cur_iff, isSome_setCell]; go_simp), (by go_simp), (by simp only [cur_iff, isSome_setCell]; go_simp), (by go_simp)⟩, ⟨(by first | omega | ((try simp only [World.size_alloc, World.size_setCell, size_drew, size_drewN]); omega) | (simp; done) | (simp; omega)), (by simp only [cur_iff, isSome_setCell]; go_simp), (by go_simp), (by simp only [cur_iff, isSome_setCell]; go_simp), (by go_simp)⟩, (by first | omega | ((try simp only [World.size_alloc, World.size_setCell, size_drew, size_drewN]); omega) | (simp; done) | (simp; omega))⟩
              · have b1 : (r1 == 0) = false := by simp [g1]
                clear g1 g2
                go_wp2_with fail
                go_meet
                exact ⟨rfl, (by go_simp), (by go_simp), (by go_simp), (by go_simp), (by go_simp), (by go_simp), (by go_simp), (by go_simp), (by first | omega | ((try simp only [World.size_alloc, World.size_setCell, size_drew, size_drewN]); omega) | (simp; done) | (simp; omega)), (by first | omega | ((try simp only [World.size_alloc, World.size_setCell, size_drew, size_drewN]); omega) | (simp; done) | (simp; omega)), (by first | omega | ((try simp only [World.size_alloc, World.size_setCell, size_drew, size_drewN]); omega) | (simp; done) | (simp; omega)), (by first | omega | ((try simp only [World.size_alloc, World.size_setCell, size_drew, size_drewN]); omega) | (simp; done) | (simp; omega)), (by (repeat first | with_reducible exact Below.refl _ _ | with_reducible assumption | (with_reducible refine Below.setCell ?_ ?_ _; rotate_left; exact (by first | omega | (simp; done) | (simp; omega))) | (with_reducible refine Below.alloc ?_ ?_ _; rotate_left; exact (by first | omega | (simp; done) | (simp; omega))) | with_reducible refine Below.drew ?_ | with_reducible refine Below_drewN ?_ _)), ⟨(by first | omega | ((try simp only [World.size_alloc, World.size_setCell, size_drew, size_drewN]); omega) | (simp; done) | (simp; omega)), (by simp only [cur_iff, isSome_setCell]; go_simp), (by go_simp), (by simp only [cur_iff, isSome_setCell]; go_simp), (by go_simp)⟩, ⟨(by first | omega | ((try simp only [World.size_alloc, World.size_setCell, size_drew, size_drewN]); omega) | (simp; done) | (simp; omega)), (by simp only [cur_iff, isSome_setCell]; go_simp), (by go_simp), (by simp only [cur_iff, isSome_setCell]; go_simp), (by go_simp)⟩, (by first | omega | ((try simp only [World.size_alloc, World.size_setCell, size_drew, size_drewN]); omega) | (simp; done) | (simp; omega))⟩
          case rest =>
            clear hc3 hf3 hc4 hf4 A1 A2 AW x0 x1 y0 y1 X0 X1 Y0 Y1
            obtain ⟨rfl, x0, x1, y0, y1, X0, X1, Y0, Y1, hx, hy, hX, hY, hB, ⟨hS, S0, SF0, S1, SF1⟩, ⟨hT, T0, TF0, T1, TF1⟩, hw0⟩ := hcut
            generalize w3.heap.size = S at *
            generalize w4.heap.size = T at *
            have A1 := Lib.hid (fun W => mul_any a b c d W)
            have A2 := Lib.hid (fun W => mul_any a' b' c' d' W)
            have AW := Lib.hid (mul_wider v1 v2 v3 v4 i1 i2 i3 i4)
            generalize mulL a b c d = ta at *
            generalize mulL a' b' c' d' = tb at *
            obtain ⟨p2, q2, r2⟩ := ta
            obtain ⟨p2', q2', r2'⟩ := tb
            dsimp only at A1 A2 AW
            go_wp2_with fail
            refine (A1.out _).mono ?_
            rintro e w5 ⟨rfl, hb⟩
            have hB : Below w.heap.size w w5 := Below.trans (by (repeat first | with_reducible exact Below.refl _ _ | with_reducible assumption | (with_reducible refine Below.setCell ?_ ?_ _; rotate_left; exact (by first | omega | (simp; done) | (simp; omega))) | (with_reducible refine Below.alloc ?_ ?_ _; rotate_left; exact (by first | omega | (simp; done) | (simp; omega))) | with_reducible refine Below.drew ?_ | with_reducible refine Below_drewN ?_ _)) (hb.mono (by first | omega | ((try simp only [World.size_alloc, World.size_setCell, size_drew, size_drewN]); omega) | (simp; done) | (simp; omega)))
            obtain ⟨hc5, hf5⟩ := bcell hb
            have hs := hb.size
            clear hb
            (try simp only [World.size_alloc, World.size_setCell] at hc5 hf5 hs)
            have : w.heap.size < w5.heap.size := by omega
            have : x < w5.heap.size := by omega
            have : y < w5.heap.size := by omega
            have : X < w5.heap.size := by omega
            have : Y < w5.heap.size := by omega
            have : S < w5.heap.size := by omega
            have : T < w5.heap.size := by omega
            go_wp2_with fail
            refine (A2.out _).mono ?_
            rintro e w6 ⟨rfl, hb⟩
            have hB : Below w.heap.size w w6 := Below.trans (by (repeat first | with_reducible exact Below.refl _ _ | with_reducible assumption | (with_reducible refine Below.setCell ?_ ?_ _; rotate_left; exact (by first | omega | (simp; done) | (simp; omega))) | (with_reducible refine Below.alloc ?_ ?_ _; rotate_left; exact (by first | omega | (simp; done) | (simp; omega))) | with_reducible refine Below.drew ?_ | with_reducible refine Below_drewN ?_ _)) (hb.mono (by first | omega | ((try simp only [World.size_alloc, World.size_setCell, size_drew, size_drewN]); omega) | (simp; done) | (simp; omega)))
            obtain ⟨hc6, hf6⟩ := bcell hb
            have hs := hb.size
            clear hb
            (try simp only [World.size_alloc, World.size_setCell] at hc6 hf6 hs)
            have : w.heap.size < w6.heap.size := by omega
            have : x < w6.heap.size := by omega
            have : y < w6.heap.size := by omega
            have : X < w6.heap.size := by omega
            have : Y < w6.heap.size := by omega
            have : S < w6.heap.size := by omega
            have : T < w6.heap.size := by omega
            go_upto_region 12 with fail
            go_cut [89] (fun sv wx => sv = .bool false ∧ wx.cell? ⟨x, 0, none⟩ = some (.int .i64 a) ∧ wx.cell? ⟨x, 1, none⟩ = some (.int .i64 b) ∧ wx.cell? ⟨y, 0, none⟩ = some (.int .i64 c) ∧ wx.cell? ⟨y, 1, none⟩ = some (.int .i64 d) ∧ wx.cell? ⟨X, 0, none⟩ = some (.int .i64 a') ∧ wx.cell? ⟨X, 1, none⟩ = some (.int .i64 b') ∧ wx.cell? ⟨Y, 0, none⟩ = some (.int .i64 c') ∧ wx.cell? ⟨Y, 1, none⟩ = some (.int .i64 d') ∧ x < wx.heap.size ∧ y < wx.heap.size ∧ X < wx.heap.size ∧ Y < wx.heap.size ∧ Below w.heap.size w wx ∧ (S < wx.heap.size ∧ (wx).cell? ⟨S, 0, none⟩ = some (cur (wx) ⟨S, 0, none⟩) ∧ (wx).frozen? ⟨S, 0, none⟩ = false ∧ (wx).cell? ⟨S, 1, none⟩ = some (cur (wx) ⟨S, 1, none⟩) ∧ (wx).frozen? ⟨S, 1, none⟩ = false) ∧ (T < wx.heap.size ∧ (wx).cell? ⟨T, 0, none⟩ = some (cur (wx) ⟨T, 0, none⟩) ∧ (wx).frozen? ⟨T, 0, none⟩ = false ∧ (wx).cell? ⟨T, 1, none⟩ = some (cur (wx) ⟨T, 1, none⟩) ∧ (wx).frozen? ⟨T, 1, none⟩ = false) ∧ w.heap.size < wx.heap.size)
            case first =>
              by_cases g2 : r2' = 0
              · by_cases g1 : r2 = 0
                · have HI := Lib.hid (AW.out g2 g1)
                  have b1 : (r2 == 0) = true := by simp [g1]
                  have b2 : (r2' == 0) = true := by simp [g2]
                  have b3 : (r2 != 0) = false := by simp [g1]
                  clear g1 g2
                  go_wp2_with (first | (go_at_call 15; refine (inside_is HI.out _).mono ?_; rintro e wz ⟨rfl, hb⟩; have hB : Below w.heap.size w wz := Below.trans (by (repeat first | with_reducible exact Below.refl _ _ | with_reducible assumption | (with_reducible refine Below.setCell ?_ ?_ _; rotate_left; exact (by first | omega | (simp; done) | (simp; omega))) | (with_reducible refine Below.alloc ?_ ?_ _; rotate_left; exact (by first | omega | (simp; done) | (simp; omega))) | with_reducible refine Below.drew ?_ | with_reducible refine Below_drewN ?_ _)) (hb.mono (by first | omega | ((try simp only [World.size_alloc, World.size_setCell, size_drew, size_drewN]); omega) | (simp; done) | (simp; omega))); obtain ⟨hc, hf⟩ := bcell hb; have hs := hb.size; clear hb; (try simp only [World.size_alloc, World.size_setCell] at hc hf hs); have : w.heap.size < wz.heap.size := (by omega); have : x < wz.heap.size := (by omega); have : y < wz.heap.size := (by omega); have : X < wz.heap.size := (by omega); have : Y < wz.heap.size := (by omega); have : S < wz.heap.size := (by omega); have : T < wz.heap.size := (by omega)))
                  go_meet
                  exact ⟨rfl, (by go_simp), (by go_simp), (by go_simp), (by go_simp), (by go_simp), (by go_simp), (by go_simp), (by go_simp), (by first | omega | ((try simp only [World.size_alloc, World.size_setCell, size_drew, size_drewN]); omega) | (simp; done) | (simp; omega)), (by first | omega | ((try simp only [World.size_alloc, World.size_setCell, size_drew, size_drewN]); omega) | (simp; done) | (simp; omega)), (by first | omega | ((try simp only [World.size_alloc, World.size_setCell, size_drew, size_drewN]); omega) | (simp; done) | (simp; omega)), (by first | omega | ((try simp only [World.size_alloc, World.size_setCell, size_drew, size_drewN]); omega) | (simp; done) | (simp; omega)), (by (repeat first | with_reducible exact Below.refl _ _ | with_reducible assumption | (with_reducible refine Below.setCell ?_ ?_ _; rotate_left; exact (by first | omega | (simp; done) | (simp; omega))) | (with_reducible refine Below.alloc ?_ ?_ _; rotate_left; exact (by first | omega | (simp; done) | (simp; omega))) | with_reducible refine Below.drew ?_ | with_reducible refine Below_drewN ?_ _)), ⟨(by first | omega | ((try simp only [World.size_alloc, World.size_setCell, size_drew, size_drewN]); omega) | (simp; done) | (simp; omega)), (by simp only [cur_iff, isSome_setCell]; go_simp), (by go_simp), (by simp only [cur_iff, isSome_setCell]; go_simp), (by go_simp)⟩, ⟨(by first | omega | ((try simp only [World.size_alloc, World.size_setCell, size_drew, size_drewN]); omega) | (simp; done) | (simp; omega)), (by simp only [cur_iff, isSome_setCell]; go_simp), (by go_simp), (by simp only [cur_iff, isSome_setCell]; go_simp), (by go_simp)⟩, (by first | omega | ((try simp only [World.size_alloc, World.size_setCell, size_drew, size_drewN]); omega) | (simp; done) | (simp; omega))⟩
                · have b1 : (r2 == 0) = false := by simp [g1]
                  have b2 : (r2' == 0) = true := by simp [g2]
                  clear g1 g2
                  go_wp2_with fail
                  go_meet
                  exact ⟨rfl, (by go_simp), (by go_simp), (by go_simp), (by go_simp), (by go_simp), (by go_simp), (by go_simp), (by go_simp), (by first | omega | ((try simp only [World.size_alloc, World.size_setCell, size_drew, size_drewN]); omega) | (simp; done) | (simp; omega)), (by first | omega | ((try simp only [World.size_alloc, World.size_setCell, size_drew, size_drewN]); omega) | (simp; done) | (simp; omega)), (by first | omega | ((try simp only [World.size_alloc, World.size_setCell, size_drew, size_drewN]); omega) | (simp; done) | (simp; omega)), (by first | omega | ((try simp only [World.size_alloc, World.size_setCell, size_drew, size_drewN]); omega) | (simp; done) | (simp; omega)), (by (repeat first | with_reducible exact Below.refl _ _ | with_reducible assumption | (with_reducible refine Below.setCell ?_ ?_ _; rotate_left; exact (by first | omega | (simp; done) | (simp; omega))) | (with_reducible refine Below.alloc ?_ ?_ _; rotate_left; exact (by first | omega | (simp; done) | (simp; omega))) | with_reducible refine Below.drew ?_ | with_reducible refine Below_drewN ?_ _)), ⟨(by first | omega | ((try simp only [World.size_alloc, World.size_setCell, size_drew, size_drewN]); omega) | (simp; done) | (simp; omega)), (by simp only [cur_iff, isSome_setCell]; go_simp), (by go_simp), (by simp only [cur_iff, isSome_setCell]; go_simp), (by go_simp)⟩, ⟨(by first | omega | ((try simp only [World.size_alloc, World.size_setCell, size_drew, size_drewN]); omega) | (simp; done) | (simp; omega)), (by simp only [cur_iff, isSome_setCell]; go_simp), (by go_simp), (by simp only [cur_iff, isSome_setCell]; go_simp), (by go_simp)⟩, (by first | omega | ((try simp only [World.size_alloc, World.size_setCell, size_drew, size_drewN]); omega) | (simp; done) | (simp; omega))⟩
              · have b2 : (r2' == 0) = false := by simp [g2]
                by_cases g1 : r2 = 0
                · have b1 : (r2 == 0) = true := by simp [g1]
                  clear g1 g2
                  go_wp2_with fail
                  go_meet
                  exact ⟨rfl, (by go_simp), (by go_simp), (by go_simp), (by go_simp), (by go_simp), (by go_simp), (by go_simp), (by go_simp), (by first | omega | ((try simp only [World.size_alloc, World.size_setCell, size_drew, size_drewN]); omega) | (simp; done) | (simp; omega)), (by first | omega | ((try simp only [World.size_alloc, World.size_setCell, size_drew, size_drewN]); omega) | (simp; done) | (simp; omega)), (by first | omega | ((try simp only [World.size_alloc, World.size_setCell, size_drew, size_drewN]); omega) | (simp; done) | (simp; omega)), (by first | omega | ((try simp only [World.size_alloc, World.size_setCell, size_drew, size_drewN]); omega) | (simp; done) | (simp; omega)), (by (repeat first | with_reducible exact Below.refl _ _ | with_reducible assumption | (with_reducible refine Below.setCell ?_ ?_ _; rotate_left; exact (by first | omega | (simp; done) | (simp; omega))) | (with_reducible refine Below.alloc ?_ ?_ _; rotate_left; exact (by first | omega | (simp; done) | (simp; omega))) | with_reducible refine Below.drew ?_ | with_reducible refine Below_drewN ?_ _)), ⟨(by first | omega | ((try simp only [World.size_alloc, World.size_setCell, size_drew, size_drewN]); omega) | (simp; done) | (simp; omega)), (by simp only [cur_iff, isSome_setCell]; go_simp), (by go_simp), (by simp only [cur_iff, isSome_setCell]; go_simp), (by go_simp)⟩, ⟨(by first | omega | ((try simp only [World.size_alloc, World.size_setCell, size_drew, size_drewN]); omega) | (simp; done) | (simp; omega)), (by simp only [cur_iff, isSome_setCell]; go_simp), (by go_simp), (by simp only [cur_iff, isSome_setCell]; go_simp), (by go_simp)⟩, (by first | omega | ((try simp only [World.size_alloc, World.size_setCell, size_drew, size_drewN]); omega) | (simp; done) | (simp; omega))⟩
                · have b1 : (r2 == 0) = false := by simp [g1]
                  clear g1 g2
                  go_wp2_with fail
                  go_meet
                  exact ⟨rfl, (by go_simp), (by go_simp), (by go_simp), (by go_simp), (by go_simp), (by go_simp), (by go_simp), (by go_simp), (by first | omega | ((try simp only [World.size_alloc, World.size_setCell, size_drew, size_drewN]); omega) | (simp; done) | (simp; omega)), (by first | omega | ((try simp only [World.size_alloc, World.size_setCell, size_drew, size_drewN]); omega) | (simp; done) | (simp; omega)), (by first | omega | ((try simp only [World.size_alloc, World.size_setCell, size_drew, size_drewN]); omega) | (simp; done) | (simp; omega)), (by first | omega | ((try simp only [World.size_alloc, World.size_setCell, size_drew, size_drewN]); omega) | (simp; done) | (simp; omega)), (by (repeat first | with_reducible exact Below.refl _ _ | with_reducible assumption | (with_reducible refine Below.setCell ?_ ?_ _; rotate_left; exact (by first | omega | (simp; done) | (simp; omega))) | (with_reducible refine Below.alloc ?_ ?_ _; rotate_left; exact (by first | omega | (simp; done) | (simp; omega))) | with_reducible refine Below.drew ?_ | with_reducible refine Below_drewN ?_ _)), ⟨(by first | omega | ((try simp only [World.size_alloc, World.size_setCell, size_drew, size_drewN]); omega) | (simp; done) | (simp; omega)), (by simp only [cur_iff, isSome_setCell]; go_simp), (by go_simp), (by simp only [cur_iff, isSome_setCell]; go_simp), (by go_simp)⟩, ⟨(by first | omega | ((try simp only [World.size_alloc, World.size_setCell, size_drew, size_drewN]); omega) | (simp; done) | (simp; omega)), (by simp only [cur_iff, isSome_setCell]; go_simp), (by go_simp), (by simp only [cur_iff, isSome_setCell]; go_simp), (by go_simp)⟩, (by first | omega | ((try simp only [World.size_alloc, World.size_setCell, size_drew, size_drewN]); omega) | (simp; done) | (simp; omega))⟩
            case rest =>
              clear hc5 hf5 hc6 hf6 A1 A2 AW x0 x1 y0 y1 X0 X1 Y0 Y1
              obtain ⟨rfl, x0, x1, y0, y1, X0, X1, Y0, Y1, hx, hy, hX, hY, hB, ⟨hS, S0, SF0, S1, SF1⟩, ⟨hT, T0, TF0, T1, TF1⟩, hw0⟩ := hcut
              have A1 := Lib.hid (fun W => quot_any a b c d W)
              have A2 := Lib.hid (fun W => quot_any a' b' c' d' W)
              have AW := Lib.hid (quot_wider v1 v2 v3 v4 i1 i2 i3 i4)
              generalize quotL a b c d = ta at *
              generalize quotL a' b' c' d' = tb at *
              obtain ⟨p3, q3, r3⟩ := ta
              obtain ⟨p3', q3', r3'⟩ := tb
              dsimp only at A1 A2 AW
              go_wp2_with fail
              refine (A1.out _).mono ?_
              rintro e w7 ⟨rfl, hb⟩
              have hB : Below w.heap.size w w7 := Below.trans (by (repeat first | with_reducible exact Below.refl _ _ | with_reducible assumption | (with_reducible refine Below.setCell ?_ ?_ _; rotate_left; exact (by first | omega | (simp; done) | (simp; omega))) | (with_reducible refine Below.alloc ?_ ?_ _; rotate_left; exact (by first | omega | (simp; done) | (simp; omega))) | with_reducible refine Below.drew ?_ | with_reducible refine Below_drewN ?_ _)) (hb.mono (by first | omega | ((try simp only [World.size_alloc, World.size_setCell, size_drew, size_drewN]); omega) | (simp; done) | (simp; omega)))
              obtain ⟨hc7, hf7⟩ := bcell hb
              have hs := hb.size
              clear hb
              (try simp only [World.size_alloc, World.size_setCell] at hc7 hf7 hs)
              have : w.heap.size < w7.heap.size := by omega
              have : x < w7.heap.size := by omega
              have : y < w7.heap.size := by omega
              have : X < w7.heap.size := by omega
              have : Y < w7.heap.size := by omega
              have : S < w7.heap.size := by omega
              have : T < w7.heap.size := by omega
              go_wp2_with fail
              refine (A2.out _).mono ?_
              rintro e w8 ⟨rfl, hb⟩
              have hB : Below w.heap.size w w8 := Below.trans (by (repeat first | with_reducible exact Below.refl _ _ | with_reducible assumption | (with_reducible refine Below.setCell ?_ ?_ _; rotate_left; exact (by first | omega | (simp; done) | (simp; omega))) | (with_reducible refine Below.alloc ?_ ?_ _; rotate_left; exact (by first | omega | (simp; done) | (simp; omega))) | with_reducible refine Below.drew ?_ | with_reducible refine Below_drewN ?_ _)) (hb.mono (by first | omega | ((try simp only [World.size_alloc, World.size_setCell, size_drew, size_drewN]); omega) | (simp; done) | (simp; omega)))
              obtain ⟨hc8, hf8⟩ := bcell hb
              have hs := hb.size
              clear hb
              (try simp only [World.size_alloc, World.size_setCell] at hc8 hf8 hs)
              have : w.heap.size < w8.heap.size := by omega
              have : x < w8.heap.size := by omega
              have : y < w8.heap.size := by omega
              have : X < w8.heap.size := by omega
              have : Y < w8.heap.size := by omega
              have : S < w8.heap.size := by omega
              have : T < w8.heap.size := by omega
              go_upto_region 16 with fail
              go_cut [113] (fun sv wx => sv = .bool false ∧ wx.cell? ⟨x, 0, none⟩ = some (.int .i64 a) ∧ wx.cell? ⟨x, 1, none⟩ = some (.int .i64 b) ∧ wx.cell? ⟨y, 0, none⟩ = some (.int .i64 c) ∧ wx.cell? ⟨y, 1, none⟩ = some (.int .i64 d) ∧ wx.cell? ⟨X, 0, none⟩ = some (.int .i64 a') ∧ wx.cell? ⟨X, 1, none⟩ = some (.int .i64 b') ∧ wx.cell? ⟨Y, 0, none⟩ = some (.int .i64 c') ∧ wx.cell? ⟨Y, 1, none⟩ = some (.int .i64 d') ∧ x < wx.heap.size ∧ y < wx.heap.size ∧ X < wx.heap.size ∧ Y < wx.heap.size ∧ Below w.heap.size w wx ∧ (S < wx.heap.size ∧ (wx).cell? ⟨S, 0, none⟩ = some (cur (wx) ⟨S, 0, none⟩) ∧ (wx).frozen? ⟨S, 0, none⟩ = false ∧ (wx).cell? ⟨S, 1, none⟩ = some (cur (wx) ⟨S, 1, none⟩) ∧ (wx).frozen? ⟨S, 1, none⟩ = false) ∧ (T < wx.heap.size ∧ (wx).cell? ⟨T, 0, none⟩ = some (cur (wx) ⟨T, 0, none⟩) ∧ (wx).frozen? ⟨T, 0, none⟩ = false ∧ (wx).cell? ⟨T, 1, none⟩ = some (cur (wx) ⟨T, 1, none⟩) ∧ (wx).frozen? ⟨T, 1, none⟩ = false) ∧ w.heap.size < wx.heap.size)
              case first =>
                by_cases g2 : r3' = 0
                · by_cases g1 : r3 = 0
                  · have HI := Lib.hid ((AW.out g2).2)
                    have b1 : (r3 == 0) = true := by simp [g1]
                    have b2 : (r3' == 0) = true := by simp [g2]
                    have b3 : (r3 != 0) = false := by simp [g1]
                    clear g1 g2
                    go_wp2_with (first | (go_at_call 15; refine (inside_is HI.out _).mono ?_; rintro e wz ⟨rfl, hb⟩; have hB : Below w.heap.size w wz := Below.trans (by (repeat first | with_reducible exact Below.refl _ _ | with_reducible assumption | (with_reducible refine Below.setCell ?_ ?_ _; rotate_left; exact (by first | omega | (simp; done) | (simp; omega))) | (with_reducible refine Below.alloc ?_ ?_ _; rotate_left; exact (by first | omega | (simp; done) | (simp; omega))) | with_reducible refine Below.drew ?_ | with_reducible refine Below_drewN ?_ _)) (hb.mono (by first | omega | ((try simp only [World.size_alloc, World.size_setCell, size_drew, size_drewN]); omega) | (simp; done) | (simp; omega))); obtain ⟨hc, hf⟩ := bcell hb; have hs := hb.size; clear hb; (try simp only [World.size_alloc, World.size_setCell] at hc hf hs); have : w.heap.size < wz.heap.size := (by omega); have : x < wz.heap.size := (by omega); have : y < wz.heap.size := (by omega); have : X < wz.heap.size := (by omega); have : Y < wz.heap.size := (by omega); have : S < wz.heap.size := (by omega); have : T < wz.heap.size := (by omega)))
                    go_meet
                    exact ⟨rfl, (by go_simp), (by go_simp), (by go_simp), (by go_simp), (by go_simp), (by go_simp), (by go_simp), (by go_simp), (by first | omega | ((try simp only [World.size_alloc, World.size_setCell, size_drew, size_drewN]); omega) | (simp; done) | (simp; omega)), (by first | omega | ((try simp only [World.size_alloc, World.size_setCell, size_drew, size_drewN]); omega) | (simp; done) | (simp; omega)), (by first | omega | ((try simp only [World.size_alloc, World.size_setCell, size_drew, size_drewN]); omega) | (simp; done) | (simp; omega)), (by first | omega | ((try simp only [World.size_alloc, World.size_setCell, size_drew, size_drewN]); omega) | (simp; done) | (simp; omega)), (by (repeat first | with_reducible exact Below.refl _ _ | with_reducible assumption | (with_reducible refine Below.setCell ?_ ?_ _; rotate_left; exact (by first | omega | (simp; done) | (simp; omega))) | (with_reducible refine Below.alloc ?_ ?_ _; rotate_left; exact (by first | omega | (simp; done) | (simp; omega))) | with_reducible refine Below.drew ?_ | with_reducible refine Below_drewN ?_ _)), ⟨(by first | omega | ((try simp only [World.size_alloc, World.size_setCell, size_drew, size_drewN]); omega) | (simp; done) | (simp; omega)), (by simp only [cur_iff, isSome_setCell]; go_simp), (by go_simp), (by simp only [cur_iff, isSome_setCell]; go_simp), (by go_simp)⟩, ⟨(by first | omega | ((try simp only [World.size_alloc, World.size_setCell, size_drew, size_drewN]); omega) | (simp; done) | (simp; omega)), (by simp only [cur_iff, isSome_setCell]; go_simp), (by go_simp), (by simp only [cur_iff, isSome_setCell]; go_simp), (by go_simp)⟩, (by first | omega | ((try simp only [World.size_alloc, World.size_setCell, size_drew, size_drewN]); omega) | (simp; done) | (simp; omega))⟩
                  · have b1 : (r3 == 0) = false := by simp [g1]
                    have b2 : (r3' == 0) = true := by simp [g2]
                    exact absurd (AW.out g2).1 g1
                · have b2 : (r3' == 0) = false := by simp [g2]
                  clear g2
                  go_wp2_with fail
                  go_meet
                  exact ⟨rfl, (by go_simp), (by go_simp), (by go_simp), (by go_simp), (by go_simp), (by go_simp), (by go_simp), (by go_simp), (by first | omega | ((try simp only [World.size_alloc, World.size_setCell, size_drew, size_drewN]); omega) | (simp; done) | (simp; omega)), (by first | omega | ((try simp only [World.size_alloc, World.size_setCell, size_drew, size_drewN]); omega) | (simp; done) | (simp; omega)), (by first | omega | ((try simp only [World.size_alloc, World.size_setCell, size_drew, size_drewN]); omega) | (simp; done) | (simp; omega)), (by first | omega | ((try simp only [World.size_alloc, World.size_setCell, size_drew, size_drewN]); omega) | (simp; done) | (simp; omega)), (by (repeat first | with_reducible exact Below.refl _ _ | with_reducible assumption | (with_reducible refine Below.setCell ?_ ?_ _; rotate_left; exact (by first | omega | (simp; done) | (simp; omega))) | (with_reducible refine Below.alloc ?_ ?_ _; rotate_left; exact (by first | omega | (simp; done) | (simp; omega))) | with_reducible refine Below.drew ?_ | with_reducible refine Below_drewN ?_ _)), ⟨(by first | omega | ((try simp only [World.size_alloc, World.size_setCell, size_drew, size_drewN]); omega) | (simp; done) | (simp; omega)), (by simp only [cur_iff, isSome_setCell]; go_simp), (by go_simp), (by simp only [cur_iff, isSome_setCell]; go_simp), (by go_simp)⟩, ⟨(by first | omega | ((try simp only [World.size_alloc, World.size_setCell, size_drew, size_drewN]); omega) | (simp; done) | (simp; omega)), (by simp only [cur_iff, isSome_setCell]; go_simp), (by go_simp), (by simp only [cur_iff, isSome_setCell]; go_simp), (by go_simp)⟩, (by first | omega | ((try simp only [World.size_alloc, World.size_setCell, size_drew, size_drewN]); omega) | (simp; done) | (simp; omega))⟩
              case rest =>
                clear hc7 hf7 hc8 hf8 A1 A2 AW x0 x1 y0 y1 X0 X1 Y0 Y1
                obtain ⟨rfl, x0, x1, y0, y1, X0, X1, Y0, Y1, hx, hy, hX, hY, hB, ⟨hS, S0, SF0, S1, SF1⟩, ⟨hT, T0, TF0, T1, TF1⟩, hw0⟩ := hcut
                have A1 := Lib.hid (fun W => root_any a b W)
                have A2 := Lib.hid (fun W => root_any a' b' W)
                have AW := Lib.hid (root_wider v1 v3 i1 i2)
                generalize rootL a b = ta at *
                generalize rootL a' b' = tb at *
                obtain ⟨p4, q4, r4⟩ := ta
                obtain ⟨p4', q4', r4'⟩ := tb
                dsimp only at A1 A2 AW
                go_wp2_with fail
                refine (A1.out _).mono ?_
                rintro e w9 ⟨rfl, hb⟩
                have hB : Below w.heap.size w w9 := Below.trans (by (repeat first | with_reducible exact Below.refl _ _ | with_reducible assumption | (with_reducible refine Below.setCell ?_ ?_ _; rotate_left; exact (by first | omega | (simp; done) | (simp; omega))) | (with_reducible refine Below.alloc ?_ ?_ _; rotate_left; exact (by first | omega | (simp; done) | (simp; omega))) | with_reducible refine Below.drew ?_ | with_reducible refine Below_drewN ?_ _)) (hb.mono (by first | omega | ((try simp only [World.size_alloc, World.size_setCell, size_drew, size_drewN]); omega) | (simp; done) | (simp; omega)))
                obtain ⟨hc9, hf9⟩ := bcell hb
                have hs := hb.size
                clear hb
                (try simp only [World.size_alloc, World.size_setCell] at hc9 hf9 hs)
                have : w.heap.size < w9.heap.size := by omega
                have : x < w9.heap.size := by omega
                have : y < w9.heap.size := by omega
                have : X < w9.heap.size := by omega
                have : Y < w9.heap.size := by omega
                have : S < w9.heap.size := by omega
                have : T < w9.heap.size := by omega
                go_wp2_with fail
                refine (A2.out _).mono ?_
                rintro e w10 ⟨rfl, hb⟩
                have hB : Below w.heap.size w w10 := Below.trans (by (repeat first | with_reducible exact Below.refl _ _ | with_reducible assumption | (with_reducible refine Below.setCell ?_ ?_ _; rotate_left; exact (by first | omega | (simp; done) | (simp; omega))) | (with_reducible refine Below.alloc ?_ ?_ _; rotate_left; exact (by first | omega | (simp; done) | (simp; omega))) | with_reducible refine Below.drew ?_ | with_reducible refine Below_drewN ?_ _)) (hb.mono (by first | omega | ((try simp only [World.size_alloc, World.size_setCell, size_drew, size_drewN]); omega) | (simp; done) | (simp; omega)))
                obtain ⟨hc10, hf10⟩ := bcell hb
                have hs := hb.size
                clear hb
                (try simp only [World.size_alloc, World.size_setCell] at hc10 hf10 hs)
                have : w.heap.size < w10.heap.size := by omega
                have : x < w10.heap.size := by omega
                have : y < w10.heap.size := by omega
                have : X < w10.heap.size := by omega
                have : Y < w10.heap.size := by omega
                have : S < w10.heap.size := by omega
                have : T < w10.heap.size := by omega
                go_upto_region 20 with fail
                go_cut [135] (fun sv wx => sv = .bool false ∧ wx.cell? ⟨x, 0, none⟩ = some (.int .i64 a) ∧ wx.cell? ⟨x, 1, none⟩ = some (.int .i64 b) ∧ wx.cell? ⟨y, 0, none⟩ = some (.int .i64 c) ∧ wx.cell? ⟨y, 1, none⟩ = some (.int .i64 d) ∧ wx.cell? ⟨X, 0, none⟩ = some (.int .i64 a') ∧ wx.cell? ⟨X, 1, none⟩ = some (.int .i64 b') ∧ wx.cell? ⟨Y, 0, none⟩ = some (.int .i64 c') ∧ wx.cell? ⟨Y, 1, none⟩ = some (.int .i64 d') ∧ x < wx.heap.size ∧ y < wx.heap.size ∧ X < wx.heap.size ∧ Y < wx.heap.size ∧ Below w.heap.size w wx ∧ (S < wx.heap.size ∧ (wx).cell? ⟨S, 0, none⟩ = some (cur (wx) ⟨S, 0, none⟩) ∧ (wx).frozen? ⟨S, 0, none⟩ = false ∧ (wx).cell? ⟨S, 1, none⟩ = some (cur (wx) ⟨S, 1, none⟩) ∧ (wx).frozen? ⟨S, 1, none⟩ = false) ∧ (T < wx.heap.size ∧ (wx).cell? ⟨T, 0, none⟩ = some (cur (wx) ⟨T, 0, none⟩) ∧ (wx).frozen? ⟨T, 0, none⟩ = false ∧ (wx).cell? ⟨T, 1, none⟩ = some (cur (wx) ⟨T, 1, none⟩) ∧ (wx).frozen? ⟨T, 1, none⟩ = false) ∧ w.heap.size < wx.heap.size)
                case first =>
                  by_cases g2 : r4' = 0
                  · by_cases g1 : r4 = 0
                    · have HI := Lib.hid ((AW.out g2).2)
                      have b1 : (r4 == 0) = true := by simp [g1]
                      have b2 : (r4' == 0) = true := by simp [g2]
                      have b3 : (r4 != 0) = false := by simp [g1]
                      clear g1 g2
                      go_wp2_with (first | (go_at_call 15; refine (inside_is HI.out _).mono ?_; rintro e wz ⟨rfl, hb⟩; have hB : Below w.heap.size w wz := Below.trans (by (repeat first | with_reducible exact Below.refl _ _ | with_reducible assumption | (with_reducible refine Below.setCell ?_ ?_ _; rotate_left; exact (by first | omega | (simp; done) | (simp; omega))) | (with_reducible refine Below.alloc ?_ ?_ _; rotate_left; exact (by first | omega | (simp; done) | (simp; omega))) | with_reducible refine Below.drew ?_ | with_reducible refine Below_drewN ?_ _)) (hb.mono (by first | omega | ((try simp only [World.size_alloc, World.size_setCell, size_drew, size_drewN]); omega) | (simp; done) | (simp; omega))); obtain ⟨hc, hf⟩ := bcell hb; have hs := hb.size; clear hb; (try simp only [World.size_alloc, World.size_setCell] at hc hf hs); have : w.heap.size < wz.heap.size := (by omega); have : x < wz.heap.size := (by omega); have : y < wz.heap.size := (by omega); have : X < wz.heap.size := (by omega); have : Y < wz.heap.size := (by omega); have : S < wz.heap.size := (by omega); have : T < wz.heap.size := (by omega)))
                      go_meet
                      exact ⟨rfl, (by go_simp), (by go_simp), (by go_simp), (by go_simp), (by go_simp), (by go_simp), (by go_simp), (by go_simp), (by first | omega | ((try simp only [World.size_alloc, World.size_setCell, size_drew, size_drewN]); omega) | (simp; done) | (simp; omega)), (by first | omega | ((try simp only [World.size_alloc, World.size_setCell, size_drew, size_drewN]); omega) | (simp; done) | (simp; omega)), (by first | omega | ((try simp only [World.size_alloc, World.size_setCell, size_drew, size_drewN]); omega) | (simp; done) | (simp; omega)), (by first | omega | ((try simp only [World.size_alloc, World.size_setCell, size_drew, size_drewN]); omega) | (simp; done) | (simp; omega)), (by (repeat first | with_reducible exact Below.refl _ _ | with_reducible assumption | (with_reducible refine Below.setCell ?_ ?_ _; rotate_left; exact (by first | omega | (simp; done) | (simp; omega))) | (with_reducible refine Below.alloc ?_ ?_ _; rotate_left; exact (by first | omega | (simp; done) | (simp; omega))) | with_reducible refine Below.drew ?_ | with_reducible refine Below_drewN ?_ _)), ⟨(by first | omega | ((try simp only [World.size_alloc, World.size_setCell, size_drew, size_drewN]); omega) | (simp; done) | (simp; omega)), (by simp only [cur_iff, isSome_setCell]; go_simp), (by go_simp), (by simp only [cur_iff, isSome_setCell]; go_simp), (by go_simp)⟩, ⟨(by first | omega | ((try simp only [World.size_alloc, World.size_setCell, size_drew, size_drewN]); omega) | (simp; done) | (simp; omega)), (by simp only [cur_iff, isSome_setCell]; go_simp), (by go_simp), (by simp only [cur_iff, isSome_setCell]; go_simp), (by go_simp)⟩, (by first | omega | ((try simp only [World.size_alloc, World.size_setCell, size_drew, size_drewN]); omega) | (simp; done) | (simp; omega))⟩
                    · have b1 : (r4 == 0) = false := by simp [g1]
                      have b2 : (r4' == 0) = true := by simp [g2]
                      exact absurd (AW.out g2).1 g1
                  · have b2 : (r4' == 0) = false := by simp [g2]
                    clear g2
                    go_wp2_with fail
                    go_meet
                    exact ⟨rfl, (by go_simp), (by go_simp), (by go_simp), (by go_simp), (by go_simp), (by go_simp), (by go_simp), (by go_simp), (by first | omega | ((try simp only [World.size_alloc, World.size_setCell, size_drew, size_drewN]); omega) | (simp; done) | (simp; omega)), (by first | omega | ((try simp only [World.size_alloc, World.size_setCell, size_drew, size_drewN]); omega) | (simp; done) | (simp; omega)), (by first | omega | ((try simp only [World.size_alloc, World.size_setCell, size_drew, size_drewN]); omega) | (simp; done) | (simp; omega)), (by first | omega | ((try simp only [World.size_alloc, World.size_setCell, size_drew, size_drewN]); omega) | (simp; done) | (simp; omega)), (by (repeat first | with_reducible exact Below.refl _ _ | with_reducible assumption | (with_reducible refine Below.setCell ?_ ?_ _; rotate_left; exact (by first | omega | (simp; done) | (simp; omega))) | (with_reducible refine Below.alloc ?_ ?_ _; rotate_left; exact (by first | omega | (simp; done) | (simp; omega))) | with_reducible refine Below.drew ?_ | with_reducible refine Below_drewN ?_ _)), ⟨(by first | omega | ((try simp only [World.size_alloc, World.size_setCell, size_drew, size_drewN]); omega) | (simp; done) | (simp; omega)), (by simp only [cur_iff, isSome_setCell]; go_simp), (by go_simp), (by simp only [cur_iff, isSome_setCell]; go_simp), (by go_simp)⟩, ⟨(by first | omega | ((try simp only [World.size_alloc, World.size_setCell, size_drew, size_drewN]); omega) | (simp; done) | (simp; omega)), (by simp only [cur_iff, isSome_setCell]; go_simp), (by go_simp), (by simp only [cur_iff, isSome_setCell]; go_simp), (by go_simp)⟩, (by first | omega | ((try simp only [World.size_alloc, World.size_setCell, size_drew, size_drewN]); omega) | (simp; done) | (simp; omega))⟩
                case rest =>
                  clear hc9 hf9 hc10 hf10 A1 A2 AW x0 x1 y0 y1 X0 X1 Y0 Y1
                  obtain ⟨rfl, x0, x1, y0, y1, X0, X1, Y0, Y1, hx, hy, hX, hY, hB, ⟨hS, S0, SF0, S1, SF1⟩, ⟨hT, T0, TF0, T1, TF1⟩, hw0⟩ := hcut
                  have hl := less_wider v1 v2 v3 v4 i1 i2 i3 i4
                  clear v1 v2 v3 v4 i1 i2 i3 i4
                  by_cases q : lessL a' b' c' d' = 2
                  · have HL1 := Lib.hid q
                    clear hl q
                    go_wp2_with fail
                    have HS : Hid (∀ w' : World, Reg (wc.heap.size) (wc) w' → (Reg (wc.heap.size) (wc) w' ∧ w'.cell? ⟨X, 0, none⟩ = some (.int .i64 a') ∧ w'.cell? ⟨X, 1, none⟩ = some (.int .i64 b') ∧ w'.cell? ⟨Y, 0, none⟩ = some (.int .i64 c') ∧ w'.cell? ⟨Y, 1, none⟩ = some (.int .i64 d'))) := (fun w' h => by (have hc := h.cells; have hs := h.some; have hf := h.frozen; refine ⟨h, ?_⟩; (try simp only [World.size_alloc, World.size_setCell, size_drew, size_drewN] at hc hs hf); first | (simp (disch := omega) only [hc, hs, hf, cur_iff]; (try go_simp); done) | (simp (disch := first | omega | (simp; done)) only [hc, hs, hf, cur_iff]; (try go_simp); done) | (simp (maxDischargeDepth := 4) [hc, hs, hf, cur_iff, go_sem]; done) | (go_simp; done) | (simp (maxDischargeDepth := 4) [hc, hs, hf, cur_iff, go_sem]; go_simp)))
                    refine wp_region_held_drew (S := fun w' => Reg (wc.heap.size) (wc) w' ∧ w'.cell? ⟨X, 0, none⟩ = some (.int .i64 a') ∧ w'.cell? ⟨X, 1, none⟩ = some (.int .i64 b') ∧ w'.cell? ⟨Y, 0, none⟩ = some (.int .i64 c') ∧ w'.cell? ⟨Y, 1, none⟩ = some (.int .i64 d')) (by kernel_rfl) (HS.out _ (by (repeat first | with_reducible exact Reg.refl _ _ | with_reducible exact Reg.drewN2 _ _ _ _ | with_reducible exact (‹Reg _ _ _ ∧ _›).1 | (with_reducible refine Reg.setCell ?_ ?_ _; rotate_left; exact (by first | omega | ((try simp only [World.size_alloc, World.size_setCell, size_drew, size_drewN]); omega) | (simp; done) | (simp; omega))) | with_reducible refine Reg.alloc ?_ _ | with_reducible refine Reg.drew ?_ | with_reducible refine Reg.drewN ?_ _ | (with_reducible apply Reg.call; rotate_left; with_reducible assumption)))) (fun hHeld => ?_)
                    refine wpAnyH_takeD (i := 0) (v := (.agg #[.int .i64 a', .int .i64 b'])) (some 136) rfl rfl (by kernel_rfl) (by kernel_rfl) (by kernel_rfl) (fun _ _ _ h => h) (Or.inl ⟨by rfl, fun w' hSw => (by (try dsimp only at hSw); go_simp)⟩) (by assumption) ?_; (try simp only [Act.put, List.setIfInBounds_toArray, List.set_cons_zero, List.set_cons_succ])
                    refine wpAnyH_takeD (i := 1) (v := (.agg #[.int .i64 c', .int .i64 d'])) (some 137) rfl rfl (by kernel_rfl) (by kernel_rfl) (by kernel_rfl) (fun _ _ _ h => h) (Or.inl ⟨by rfl, fun w' hSw => (by (try dsimp only at hSw); go_simp)⟩) (by assumption) ?_; (try simp only [Act.put, List.setIfInBounds_toArray, List.set_cons_zero, List.set_cons_succ])
                    refine wpAnyH_ready (rs := [2]) (by kernel_rfl) (by simp) ?_; refine AllReadyH.cons rfl (fun K hK => ?_) AllReadyH.nil; go_simp; (go_at_call 51; refine (less_is HL1.out _).mono ?_; rintro e w1 ⟨rfl, hb⟩; (first | (with_reducible have hk := Nat.lt_of_lt_of_le (size_alloc_lt _ _) hb.size) | (with_reducible have hk := Nat.lt_of_lt_of_le (size_alloc_drew_lt _ _) hb.size) | (with_reducible have hk := Nat.lt_of_lt_of_le hk hb.size) | skip); (try simp only [World.size_alloc, World.size_setCell, size_drew, size_drewN] at hk); obtain ⟨hc, hf⟩ := bcell hb; have hs := hb.size; (try simp only [World.size_alloc, World.size_setCell, size_drew, size_drewN] at hs)); refine hK.out _ _ (by (try dsimp only); exact HS.out _ (by (repeat first | with_reducible exact Reg.refl _ _ | with_reducible exact Reg.drewN2 _ _ _ _ | with_reducible exact (‹Reg _ _ _ ∧ _›).1 | (with_reducible refine Reg.setCell ?_ ?_ _; rotate_left; exact (by first | omega | ((try simp only [World.size_alloc, World.size_setCell, size_drew, size_drewN]); omega) | (simp; done) | (simp; omega))) | with_reducible refine Reg.alloc ?_ _ | with_reducible refine Reg.drew ?_ | with_reducible refine Reg.drewN ?_ _ | (with_reducible apply Reg.call; rotate_left; with_reducible assumption)))) (fun hHeld => ?_); clear hK K; (try simp only [Act.put, List.setIfInBounds_toArray, List.set_cons_zero, List.set_cons_succ])
                    refine wpAnyH_takeD (i := 3) (v := (.bool true)) (some 139) rfl rfl (by kernel_rfl) (by kernel_rfl) (by kernel_rfl) (fun _ _ _ h => h) (Or.inl ⟨by rfl, fun w' hSw => (by (try dsimp only at hSw); go_simp)⟩) (by assumption) ?_; (try simp only [Act.put, List.setIfInBounds_toArray, List.set_cons_zero, List.set_cons_succ])
                    refine wpAnyH_takeD (i := 4) (v := (.bool true)) (some 140) rfl rfl (by kernel_rfl) (by kernel_rfl) (by kernel_rfl) (fun _ _ _ h => h) (Or.inl ⟨by rfl, fun w' hSw => (by (try dsimp only at hSw); go_simp)⟩) (by assumption) ?_; (try simp only [Act.put, List.setIfInBounds_toArray, List.set_cons_zero, List.set_cons_succ])
                    refine wpAnyH_takeD (i := 5) (v := undef) (some 141) rfl rfl (by kernel_rfl) (by kernel_rfl) (by kernel_rfl) (fun _ _ _ h => h) (Or.inr ⟨by rfl, rfl⟩) (by assumption) ?_; (try simp only [Act.put, List.setIfInBounds_toArray, List.set_cons_zero, List.set_cons_succ])
                    refine wpAnyH_takeD (i := 6) (v := undef) (some 142) rfl rfl (by kernel_rfl) (by kernel_rfl) (by kernel_rfl) (fun _ _ _ h => h) (Or.inr ⟨by rfl, rfl⟩) (by assumption) ?_; (try simp only [Act.put, List.setIfInBounds_toArray, List.set_cons_zero, List.set_cons_succ])
                    refine wpAnyH_takeD (i := 8) (v := undef) (some 144) rfl rfl (by kernel_rfl) (by kernel_rfl) (by kernel_rfl) (fun _ _ _ h => h) (Or.inr ⟨by rfl, rfl⟩) (by assumption) ?_; (try simp only [Act.put, List.setIfInBounds_toArray, List.set_cons_zero, List.set_cons_succ])
                    refine wpAnyH_takeD (i := 9) (v := undef) (some 145) rfl rfl (by kernel_rfl) (by kernel_rfl) (by kernel_rfl) (fun _ _ _ h => h) (Or.inr ⟨by rfl, rfl⟩) (by assumption) ?_; (try simp only [Act.put, List.setIfInBounds_toArray, List.set_cons_zero, List.set_cons_succ])
                    refine wpAnyH_ready (rs := [7]) (by kernel_rfl) (by simp) ?_; refine AllReadyH.cons rfl (fun K hK => ?_) AllReadyH.nil; go_simp; refine hK.out _ _ (by assumption) (fun hHeld => ?_); clear hK K; (try simp only [Act.put, List.setIfInBounds_toArray, List.set_cons_zero, List.set_cons_succ])
                    refine wpAnyH_ready (rs := [10]) (by kernel_rfl) (by simp) ?_; refine AllReadyH.cons rfl (fun K hK => ?_) AllReadyH.nil; go_simp; refine hK.out _ _ (by assumption) (fun hHeld => ?_); clear hK K; (try simp only [Act.put, List.setIfInBounds_toArray, List.set_cons_zero, List.set_cons_succ])
                    refine wpAnyH_takeD (i := 11) (v := undef) (some 147) rfl rfl (by kernel_rfl) (by kernel_rfl) (by kernel_rfl) (fun _ _ _ h => h) (Or.inr ⟨by rfl, rfl⟩) (by assumption) ?_; (try simp only [Act.put, List.setIfInBounds_toArray, List.set_cons_zero, List.set_cons_succ])
                    refine wpAnyH_takeD (i := 12) (v := (.bool true)) (some 148) rfl rfl (by kernel_rfl) (by kernel_rfl) (by kernel_rfl) (fun _ _ _ h => h) (Or.inl ⟨by rfl, fun w' hSw => (by (try dsimp only at hSw); go_simp)⟩) (by assumption) ?_; (try simp only [Act.put, List.setIfInBounds_toArray, List.set_cons_zero, List.set_cons_succ])
                    refine wpAnyH_takeD (i := 13) (v := (.bool true)) (some 149) rfl rfl (by kernel_rfl) (by kernel_rfl) (by kernel_rfl) (fun _ _ _ h => h) (Or.inl ⟨by rfl, fun w' hSw => (by (try dsimp only at hSw); go_simp)⟩) (by assumption) ?_; (try simp only [Act.put, List.setIfInBounds_toArray, List.set_cons_zero, List.set_cons_succ])
                    refine wpAnyH_ready (rs := [14]) (by kernel_rfl) (by simp) ?_; refine AllReadyH.cons rfl (fun K hK => ?_) AllReadyH.nil; go_simp; (go_at_call 25; refine (awake_any _).mono ?_; rintro e w1 ⟨rfl, hb⟩; (first | (with_reducible have hk := Nat.lt_of_lt_of_le (size_alloc_lt _ _) hb.size) | (with_reducible have hk := Nat.lt_of_lt_of_le (size_alloc_drew_lt _ _) hb.size) | (with_reducible have hk := Nat.lt_of_lt_of_le hk hb.size) | skip); (try simp only [World.size_alloc, World.size_setCell, size_drew, size_drewN] at hk); obtain ⟨hc, hf⟩ := bcell hb; have hs := hb.size; (try simp only [World.size_alloc, World.size_setCell, size_drew, size_drewN] at hs)); refine hK.out _ _ (by (try dsimp only); exact HS.out _ (by (repeat first | with_reducible exact Reg.refl _ _ | with_reducible exact Reg.drewN2 _ _ _ _ | with_reducible exact (‹Reg _ _ _ ∧ _›).1 | (with_reducible refine Reg.setCell ?_ ?_ _; rotate_left; exact (by first | omega | ((try simp only [World.size_alloc, World.size_setCell, size_drew, size_drewN]); omega) | (simp; done) | (simp; omega))) | with_reducible refine Reg.alloc ?_ _ | with_reducible refine Reg.drew ?_ | with_reducible refine Reg.drewN ?_ _ | (with_reducible apply Reg.call; rotate_left; with_reducible assumption)))) (fun hHeld => ?_); clear hK K; (try simp only [Act.put, List.setIfInBounds_toArray, List.set_cons_zero, List.set_cons_succ])
                    refine wpAnyH_takeD (i := 15) (v := (.bool true)) (some 151) rfl rfl (by kernel_rfl) (by kernel_rfl) (by kernel_rfl) (fun _ _ _ h => h) (Or.inl ⟨by rfl, fun w' hSw => (by (try dsimp only at hSw); go_simp)⟩) (by assumption) ?_; (try simp only [Act.put, List.setIfInBounds_toArray, List.set_cons_zero, List.set_cons_succ])
                    refine wpAnyH_takeD (i := 16) (v := (.bool true)) (some 2) rfl rfl (by kernel_rfl) (by kernel_rfl) (by kernel_rfl) (fun _ _ _ h => h) (Or.inl ⟨by rfl, fun w' hSw => (by (try dsimp only at hSw); go_simp)⟩) (by assumption) ?_; (try simp only [Act.put, List.setIfInBounds_toArray, List.set_cons_zero, List.set_cons_succ])
                    refine wpAnyH_done (by kernel_rfl) ?_ _
                    go_wp2
                    go_ret
                    exact ⟨rfl, (Reg.out (‹Reg _ _ _ ∧ _›).1 (by (repeat first | with_reducible exact Below.refl _ _ | with_reducible assumption | (with_reducible refine Below.setCell ?_ ?_ _; rotate_left; exact (by first | omega | (simp; done) | (simp; omega))) | (with_reducible refine Below.alloc ?_ ?_ _; rotate_left; exact (by first | omega | (simp; done) | (simp; omega))) | with_reducible refine Below.drew ?_ | with_reducible refine Below_drewN ?_ _)) (by first | omega | (simp; done) | (simp; omega)))⟩
                  · obtain ⟨v, hv⟩ : ∃ v, lessL a' b' c' d' = v := ⟨_, rfl⟩
                    have HL2 := Lib.hid ((hl.resolve_left q).symm.trans hv)
                    have bq : (v == 2) = false := by rw [beq_eq_false_iff_ne, ← hv]; exact q
                    have HL1 := Lib.hid hv
                    clear hl q hv
                    go_wp2_with fail
                    have HS : Hid (∀ w' : World, Reg (wc.heap.size) (wc) w' → (Reg (wc.heap.size) (wc) w' ∧ w'.cell? ⟨x, 0, none⟩ = some (.int .i64 a) ∧ w'.cell? ⟨x, 1, none⟩ = some (.int .i64 b) ∧ w'.cell? ⟨y, 0, none⟩ = some (.int .i64 c) ∧ w'.cell? ⟨y, 1, none⟩ = some (.int .i64 d) ∧ w'.cell? ⟨X, 0, none⟩ = some (.int .i64 a') ∧ w'.cell? ⟨X, 1, none⟩ = some (.int .i64 b') ∧ w'.cell? ⟨Y, 0, none⟩ = some (.int .i64 c') ∧ w'.cell? ⟨Y, 1, none⟩ = some (.int .i64 d'))) := (fun w' h => by (have hc := h.cells; have hs := h.some; have hf := h.frozen; refine ⟨h, ?_⟩; (try simp only [World.size_alloc, World.size_setCell, size_drew, size_drewN] at hc hs hf); first | (simp (disch := omega) only [hc, hs, hf, cur_iff]; (try go_simp); done) | (simp (disch := first | omega | (simp; done)) only [hc, hs, hf, cur_iff]; (try go_simp); done) | (simp (maxDischargeDepth := 4) [hc, hs, hf, cur_iff, go_sem]; done) | (go_simp; done) | (simp (maxDischargeDepth := 4) [hc, hs, hf, cur_iff, go_sem]; go_simp))); go_region_held3 (fun w' => Reg (wc.heap.size) (wc) w' ∧ w'.cell? ⟨x, 0, none⟩ = some (.int .i64 a) ∧ w'.cell? ⟨x, 1, none⟩ = some (.int .i64 b) ∧ w'.cell? ⟨y, 0, none⟩ = some (.int .i64 c) ∧ w'.cell? ⟨y, 1, none⟩ = some (.int .i64 d) ∧ w'.cell? ⟨X, 0, none⟩ = some (.int .i64 a') ∧ w'.cell? ⟨X, 1, none⟩ = some (.int .i64 b') ∧ w'.cell? ⟨Y, 0, none⟩ = some (.int .i64 c') ∧ w'.cell? ⟨Y, 1, none⟩ = some (.int .i64 d')) (exact HS.out _ (by (repeat first | with_reducible exact Reg.refl _ _ | with_reducible exact Reg.drewN2 _ _ _ _ | with_reducible exact (‹Reg _ _ _ ∧ _›).1 | (with_reducible refine Reg.setCell ?_ ?_ _; rotate_left; exact (by first | omega | ((try simp only [World.size_alloc, World.size_setCell, size_drew, size_drewN]); omega) | (simp; done) | (simp; omega))) | with_reducible refine Reg.alloc ?_ _ | with_reducible refine Reg.drew ?_ | with_reducible refine Reg.drewN ?_ _ | (with_reducible apply Reg.call; rotate_left; with_reducible assumption)))) (first | (go_at_call 51; (first | (with_reducible show Calls _ _ #[.agg #[.int .i64 a', .int .i64 b'], .agg #[.int .i64 c', .int .i64 d'] ] _ _; refine (less_is HL1.out _).mono ?_) | (with_reducible show Calls _ _ #[.agg #[.int .i64 a, .int .i64 b], .agg #[.int .i64 c, .int .i64 d] ] _ _; refine (less_is HL2.out _).mono ?_)); rintro e w1 ⟨rfl, hb⟩; (first | (with_reducible have hk := Nat.lt_of_lt_of_le (size_alloc_lt _ _) hb.size) | (with_reducible have hk := Nat.lt_of_lt_of_le (size_alloc_drew_lt _ _) hb.size) | (with_reducible have hk := Nat.lt_of_lt_of_le hk hb.size) | skip); (try simp only [World.size_alloc, World.size_setCell, size_drew, size_drewN] at hk); obtain ⟨hc, hf⟩ := bcell hb; have hs := hb.size; (try simp only [World.size_alloc, World.size_setCell, size_drew, size_drewN] at hs)) | (go_at_call 25; refine (awake_any _).mono ?_; rintro e w1 ⟨rfl, hb⟩; (first | (with_reducible have hk := Nat.lt_of_lt_of_le (size_alloc_lt _ _) hb.size) | (with_reducible have hk := Nat.lt_of_lt_of_le (size_alloc_drew_lt _ _) hb.size) | (with_reducible have hk := Nat.lt_of_lt_of_le hk hb.size) | skip); (try simp only [World.size_alloc, World.size_setCell, size_drew, size_drewN] at hk); obtain ⟨hc, hf⟩ := bcell hb; have hs := hb.size; (try simp only [World.size_alloc, World.size_setCell, size_drew, size_drewN] at hs)))
                    all_goals go_wp2
                    all_goals go_ret
                    all_goals exact ⟨rfl, (Reg.out (‹Reg _ _ _ ∧ _›).1 (by (repeat first | with_reducible exact Below.refl _ _ | with_reducible assumption | (with_reducible refine Below.setCell ?_ ?_ _; rotate_left; exact (by first | omega | (simp; done) | (simp; omega))) | (with_reducible refine Below.alloc ?_ ?_ _; rotate_left; exact (by first | omega | (simp; done) | (simp; omega))) | with_reducible refine Below.drew ?_ | with_reducible refine Below_drewN ?_ _)) (by first | omega | (simp; done) | (simp; omega)))⟩
      · have kb : (e2 != 0) = true := by rw [bne_iff_ne]; exact k2
        subst k1
        go_wp2_with (go_at_call 25; refine (awake_any _).mono ?_; rintro e w1 ⟨rfl, hb⟩; have hx : x < w1.heap.size := (by have hq := hb.size; (try simp only [World.size_alloc, World.size_setCell, size_drew, size_drewN] at hq); omega); have hy : y < w1.heap.size := (by have hq := hb.size; (try simp only [World.size_alloc, World.size_setCell, size_drew, size_drewN] at hq); omega); have hB : Below w.heap.size w w1 := Below.trans (by (repeat first | with_reducible exact Below.refl _ _ | with_reducible assumption | (with_reducible refine Below.setCell ?_ ?_ _; rotate_left; exact (by first | omega | (simp; done) | (simp; omega))) | (with_reducible refine Below.alloc ?_ ?_ _; rotate_left; exact (by first | omega | (simp; done) | (simp; omega))) | with_reducible refine Below.drew ?_ | with_reducible refine Below_drewN ?_ _)) (hb.mono (by first | omega | (simp; done) | (simp; omega))); obtain ⟨hc, hf⟩ := bcell hb; have hs := hb.size; clear hb; (try simp only [World.size_alloc, World.size_setCell] at hc hf); (try simp only [World.size_alloc, World.size_setCell] at hs); (try have hs' := Nat.lt_of_succ_le hs); (try have hs0 : w.heap.size < w1.heap.size := by omega); (try have hs1 : w.heap.size + 1 < w1.heap.size := by omega); (try have hs2 : w.heap.size + 1 + 1 < w1.heap.size := by omega); (try have hs3 : w.heap.size + 1 + 1 + 1 < w1.heap.size := by omega))
        go_ret
        exact ⟨rfl, by (repeat first | with_reducible exact Below.refl _ _ | with_reducible assumption | (with_reducible refine Below.setCell ?_ ?_ _; rotate_left; exact (by first | omega | (simp; done) | (simp; omega))) | (with_reducible refine Below.alloc ?_ ?_ _; rotate_left; exact (by first | omega | (simp; done) | (simp; omega))) | with_reducible refine Below.drew ?_ | with_reducible refine Below_drewN ?_ _)⟩
    · have kb : (e1 != 0) = true := by rw [bne_iff_ne]; exact k1
      go_wp2_with (go_at_call 25; refine (awake_any _).mono ?_; rintro e w1 ⟨rfl, hb⟩; have hx : x < w1.heap.size := (by have hq := hb.size; (try simp only [World.size_alloc, World.size_setCell, size_drew, size_drewN] at hq); omega); have hy : y < w1.heap.size := (by have hq := hb.size; (try simp only [World.size_alloc, World.size_setCell, size_drew, size_drewN] at hq); omega); have hB : Below w.heap.size w w1 := Below.trans (by (repeat first | with_reducible exact Below.refl _ _ | with_reducible assumption | (with_reducible refine Below.setCell ?_ ?_ _; rotate_left; exact (by first | omega | (simp; done) | (simp; omega))) | (with_reducible refine Below.alloc ?_ ?_ _; rotate_left; exact (by first | omega | (simp; done) | (simp; omega))) | with_reducible refine Below.drew ?_ | with_reducible refine Below_drewN ?_ _)) (hb.mono (by first | omega | (simp; done) | (simp; omega))); obtain ⟨hc, hf⟩ := bcell hb; have hs := hb.size; clear hb; (try simp only [World.size_alloc, World.size_setCell] at hc hf); (try simp only [World.size_alloc, World.size_setCell] at hs); (try have hs' := Nat.lt_of_succ_le hs); (try have hs0 : w.heap.size < w1.heap.size := by omega); (try have hs1 : w.heap.size + 1 < w1.heap.size := by omega); (try have hs2 : w.heap.size + 1 + 1 < w1.heap.size := by omega); (try have hs3 : w.heap.size + 1 + 1 + 1 < w1.heap.size := by omega))
      go_ret
      exact ⟨rfl, by (repeat first | with_reducible exact Below.refl _ _ | with_reducible assumption | (with_reducible refine Below.setCell ?_ ?_ _; rotate_left; exact (by first | omega | (simp; done) | (simp; omega))) | (with_reducible refine Below.alloc ?_ ?_ _; rotate_left; exact (by first | omega | (simp; done) | (simp; omega))) | with_reducible refine Below.drew ?_ | with_reducible refine Below_drewN ?_ _)⟩

set_option maxRecDepth 100000 in
theorem lifted (os : Os) (started : os.Started) (H : Type) (enc : TypeId × Value → H) :
    ReturnsInHanded {} Try.checked os 9 .any (Rows.spanWiderSpec.pre6 enc Try.prog Try.f9 Rows.spanWiderRow.domain false) (Rows.spanWiderSpec.post enc Try.prog Try.f9 false true false false) := by
  refine returnsInHanded_of_change (C := Try.checked) own started (by kernel_rfl) Try.func9
    (ChangeSpec.witness6 (enc := enc) (C := Try.checked) false ⟨#[], #[.agg #[.int .i64 0, .int .i64 0, .int .i64 0, .int .i64 0, .int .i64 0, .int .i64 0]], []⟩ 8 (by kernel_rfl) (by kernel_rfl) (by kernel_rfl) (by kernel_rfl)) ?_
  intro W base args ds gs before hval0 hW _ _
  have hval : ∀ (j : Nat) t v, Try.f9.params[j]? = some t → args[j]? = some v → Value.okWide Try.prog W .any base t v := hval0
  have hW' := hW
  obtain ⟨p, q, hA0, hV, rfl, _, _⟩ := hW
  have hA : DataW.TrodAll enc Try.prog W 0 (fun _ => true) true Try.f9.params.toList args.toList ds p := hA0
  rw [Try.params9] at hA hval
  obtain ⟨v0, d0, rfl, rfl, h0⟩ := trodAll_one hA
  obtain ⟨rfl, rfl⟩ := trodVars_none hV
  obtain ⟨a, b, c, d, m, n, rfl, rfl, rfl, wa, wb, wc, wd, wm, wn⟩ := open_pair (hval 0 40 v0 rfl rfl) h0
  clear hA0 hval0
  simp only [List.append_nil] at hW'
  refine (walk a b c d m n wa wb wc wd wm wn W).mono fun e W' ⟨he, hb⟩ => ?_
  subst he
  exact ⟨_, rfl, _, _, _, [], [], [], hW', trodAll_mk1 (shut_bool Try.underlying4 true), trodAll_mk1 (shut_pair wa wb wc wd wm wn), rfl, hb.frame _, fun h => by cases h⟩

theorem holds : Rows.SpanWiderSaid :=
  OpenClaim.holds_of_wide 9 Try.f9 rfl rfl rfl rfl rfl rfl rfl ⟨rfl, rfl, rfl, rfl, rfl⟩ rfl rfl rfl rfl rfl (by kernel_rfl) Try.func9 (by kernel_rfl)
    (of_decide_eq_true (by kernel_rfl)) (by unfold Func.isWrapper; rw [if_neg (of_decide_eq_false (by kernel_rfl))]; exact ⟨rfl, rfl⟩)
    (fun os started H enc _ => lifted os started H enc)

#print axioms holds
end Go.Proofs.Ytohicokoegodjaa.lawSpanWider
