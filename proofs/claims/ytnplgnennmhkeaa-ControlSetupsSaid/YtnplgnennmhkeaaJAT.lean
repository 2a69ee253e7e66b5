import Derived.Test.YtnplgnennmhkeaaJAL
import Derived.Test.YtnplgnennmhkeaaJAP
section
/- The specification of layers 6 and 7: Spans, ValidShape, Errors, over this seat's translation (written by mk_ctr.py). -/
namespace Go.Proofs.Ytnplgnennmhkeaa
set_option linter.unusedVariables false
set_option linter.unusedSimpArgs false
open Go.RowKit Go.Shelf

/-- A shape's spans by the numbers of the kinds. -/
def spanRow (s : ShapeD) : List SpanD := [⟨0, 0⟩, ⟨s.a0, s.b0⟩, ⟨s.a1, s.b1⟩, ⟨s.a2, s.b2⟩, ⟨s.a3, s.b3⟩, ⟨s.a4, s.b4⟩, ⟨s.a5, s.b5⟩, ⟨s.a6, s.b6⟩, ⟨s.a7, s.b7⟩]
theorem spanRow_all (s : ShapeD) : ((spanRow s).all fun x => vld x.lo x.hi) = okS s := by
  simp [spanRow, okS, show vld 0 0 = true from by decide]
theorem spans_isT {b : Nat} {W : World} {s : ShapeD} (h : RowL b [.int .i64 0, .int .i64 0, .int .i64 s.a0, .int .i64 s.b0, .int .i64 s.a1, .int .i64 s.b1, .int .i64 s.a2, .int .i64 s.b2, .int .i64 s.a3, .int .i64 s.b3, .int .i64 s.a4, .int .i64 s.b4, .int .i64 s.a5, .int .i64 s.b5, .int .i64 s.a6, .int .i64 s.b6, .int .i64 s.a7, .int .i64 s.b7] W) : IsT 2 SpanD.cells W (some ⟨b, 0, none⟩) 9 (spanRow s) := by
  refine ⟨rfl, fun _ => ⟨b, 0, rfl, h.lt, fun j x hx i v hv => h.cell (0 + j * 2 + i) v ?_⟩⟩
  rcases j with _ | _ | _ | _ | _ | _ | _ | _ | _ | j
  all_goals first | (have h9 := (List.getElem?_eq_some_iff.1 hx).1; simp [spanRow] at h9; omega) | skip
  all_goals obtain rfl := Option.some.inj hx
  all_goals rcases i with _ | _ | i
  all_goals first | exact hv | (have h9 := (List.getElem?_eq_some_iff.1 hv).1; simp [SpanD.cells] at h9; omega)

set_option maxRecDepth 100000 in
set_option maxHeartbeats 8000000 in
theorem rspans_any (s : ShapeD) (w : World) :
    Calls Try.prog 72 #[s.v] w (fun e w' => ∃ b : Nat, e = .returned (.slice (some ⟨b, 0, none⟩) 9 9) ∧ IsT 2 SpanD.cells w' (some ⟨b, 0, none⟩) 9 (spanRow s) ∧ Below w.heap.size w w') := by
  obtain ⟨S, hS⟩ : ∃ S, spanRow s = S := ⟨_, rfl⟩
  have HI : Hid (∀ (b : Nat) W, RowL b [.int .i64 0, .int .i64 0, .int .i64 s.a0, .int .i64 s.b0, .int .i64 s.a1, .int .i64 s.b1, .int .i64 s.a2, .int .i64 s.b2, .int .i64 s.a3, .int .i64 s.b3, .int .i64 s.a4, .int .i64 s.b4, .int .i64 s.a5, .int .i64 s.b5, .int .i64 s.a6, .int .i64 s.b6, .int .i64 s.a7, .int .i64 s.b7] W → IsT 2 SpanD.cells W (some ⟨b, 0, none⟩) 9 S) := Lib.hid (fun b W h => by rw [← hS]; exact spans_isT h)
  rw [hS]
  clear hS
  obtain ⟨a0, b0, a1, b1, a2, b2, a3, b3, a4, b4, a5, b5, a6, b6, a7, b7⟩ := s
  (try dsimp only at *)
  have HJ := Lib.hid (show ∀ (b : Nat) W, RowL b [.int .i64 0, .int .i64 0, .int .i64 a0, .int .i64 b0, .int .i64 a1, .int .i64 b1, .int .i64 a2, .int .i64 b2, .int .i64 a3, .int .i64 b3, .int .i64 a4, .int .i64 b4, .int .i64 a5, .int .i64 b5, .int .i64 a6, .int .i64 b6, .int .i64 a7, .int .i64 b7] W → IsT 2 SpanD.cells W (some ⟨b, 0, none⟩) 9 S from HI.out)
  clear HI
  show Calls Try.prog 72 #[.agg #[.int .i64 a0, .int .i64 b0, .int .i64 a1, .int .i64 b1, .int .i64 a2, .int .i64 b2, .int .i64 a3, .int .i64 b3, .int .i64 a4, .int .i64 b4, .int .i64 a5, .int .i64 b5, .int .i64 a6, .int .i64 b6, .int .i64 a7, .int .i64 b7]] w _
  go_enter Try.func72, Try.ntmps72
  go_upto_region 1 with (fail)
  have Fs : Hid (RowL (w.heap.size) [.int .i64 a0, .int .i64 b0, .int .i64 a1, .int .i64 b1, .int .i64 a2, .int .i64 b2, .int .i64 a3, .int .i64 b3, .int .i64 a4, .int .i64 b4, .int .i64 a5, .int .i64 b5, .int .i64 a6, .int .i64 b6, .int .i64 a7, .int .i64 b7] (w.alloc (.cells #[.int .i64 a0, .int .i64 b0, .int .i64 a1, .int .i64 b1, .int .i64 a2, .int .i64 b2, .int .i64 a3, .int .i64 b3, .int .i64 a4, .int .i64 b4, .int .i64 a5, .int .i64 b5, .int .i64 a6, .int .i64 b6, .int .i64 a7, .int .i64 b7] 47))) := Lib.hid (by have h := RowL.new w #[.int .i64 a0, .int .i64 b0, .int .i64 a1, .int .i64 b1, .int .i64 a2, .int .i64 b2, .int .i64 a3, .int .i64 b3, .int .i64 a4, .int .i64 b4, .int .i64 a5, .int .i64 b5, .int .i64 a6, .int .i64 b6, .int .i64 a7, .int .i64 b7] 47; (try simp only [World.size_alloc] at h); exact h)
  have hB0 : Below w.heap.size w (w.alloc (.cells #[.int .i64 a0, .int .i64 b0, .int .i64 a1, .int .i64 b1, .int .i64 a2, .int .i64 b2, .int .i64 a3, .int .i64 b3, .int .i64 a4, .int .i64 b4, .int .i64 a5, .int .i64 b5, .int .i64 a6, .int .i64 b6, .int .i64 a7, .int .i64 b7] 47)) := by (repeat first | with_reducible exact Below.refl _ _ | with_reducible assumption | (with_reducible refine Below.setCell ?_ ?_ _; rotate_left; exact (by first | omega | (simp; done) | (simp; omega))) | (with_reducible refine Below.alloc ?_ ?_ _; rotate_left; exact (by first | omega | (simp; done) | (simp; omega))) | with_reducible refine Below.drew ?_ | with_reducible refine Below_drewN ?_ _)
  have sW0 : w.heap.size < (w.alloc (.cells #[.int .i64 a0, .int .i64 b0, .int .i64 a1, .int .i64 b1, .int .i64 a2, .int .i64 b2, .int .i64 a3, .int .i64 b3, .int .i64 a4, .int .i64 b4, .int .i64 a5, .int .i64 b5, .int .i64 a6, .int .i64 b6, .int .i64 a7, .int .i64 b7] 47)).heap.size := by simp only [World.size_alloc]; omega
  obtain ⟨W0, hW0⟩ : ∃ W, (w.alloc (.cells #[.int .i64 a0, .int .i64 b0, .int .i64 a1, .int .i64 b1, .int .i64 a2, .int .i64 b2, .int .i64 a3, .int .i64 b3, .int .i64 a4, .int .i64 b4, .int .i64 a5, .int .i64 b5, .int .i64 a6, .int .i64 b6, .int .i64 a7, .int .i64 b7] 47)) = W := ⟨_, rfl⟩
  rw [hW0] at Fs hB0 sW0 ⊢
  clear hW0
  have s0 := Fs.out.cell 0 (.int .i64 a0) rfl
  have s1 := Fs.out.cell 1 (.int .i64 b0) rfl
  have s2 := Fs.out.cell 2 (.int .i64 a1) rfl
  have s3 := Fs.out.cell 3 (.int .i64 b1) rfl
  have s4 := Fs.out.cell 4 (.int .i64 a2) rfl
  have s5 := Fs.out.cell 5 (.int .i64 b2) rfl
  have s6 := Fs.out.cell 6 (.int .i64 a3) rfl
  have s7 := Fs.out.cell 7 (.int .i64 b3) rfl
  have s8 := Fs.out.cell 8 (.int .i64 a4) rfl
  have s9 := Fs.out.cell 9 (.int .i64 b4) rfl
  have s10 := Fs.out.cell 10 (.int .i64 a5) rfl
  have s11 := Fs.out.cell 11 (.int .i64 b5) rfl
  have s12 := Fs.out.cell 12 (.int .i64 a6) rfl
  have s13 := Fs.out.cell 13 (.int .i64 b6) rfl
  have s14 := Fs.out.cell 14 (.int .i64 a7) rfl
  have s15 := Fs.out.cell 15 (.int .i64 b7) rfl
  go_wp2_with fail
  go_ret
  refine ⟨W0.heap.size, rfl, ?_, by (repeat first | with_reducible exact Below.refl _ _ | with_reducible assumption | (with_reducible refine Below.setCell ?_ ?_ _; rotate_left; exact (by first | omega | (simp; done) | (simp; omega))) | (with_reducible refine Below.alloc ?_ ?_ _; rotate_left; exact (by first | omega | (simp; done) | (simp; omega))) | with_reducible refine Below.drew ?_ | with_reducible refine Below_drewN ?_ _)⟩
  refine HJ.out _ _ ?_
  exact RowL.new W0 #[.int .i64 0, .int .i64 0, .int .i64 a0, .int .i64 b0, .int .i64 a1, .int .i64 b1, .int .i64 a2, .int .i64 b2, .int .i64 a3, .int .i64 b3, .int .i64 a4, .int .i64 b4, .int .i64 a5, .int .i64 b5, .int .i64 a6, .int .i64 b6, .int .i64 a7, .int .i64 b7] 45

theorem all_drop {l : List SpanD} {j : Nat} {x : SpanD} (h : l[j]? = some x) : ((l.drop j).all fun x => vld x.lo x.hi) = (vld x.lo x.hi && ((l.drop (j + 1)).all fun x => vld x.lo x.hi)) := by
  obtain ⟨k1, rfl⟩ := List.getElem?_eq_some_iff.1 h
  rw [List.drop_eq_getElem_cons k1, List.all_cons]

set_option maxRecDepth 100000 in
set_option maxHeartbeats 8000000 in
theorem rvalidShape_any (s : ShapeD) (w : World) :
    Calls Try.prog 33 #[s.v] w (Ret (.bool (okS s)) w) := by
  have HS0 := Lib.hid (fun W => rspans_any s W)
  have HG0 : Hid (((spanRow s).drop 0).all (fun x => vld x.lo x.hi) = okS s) := Lib.hid (spanRow_all s)
  have hlen : (spanRow s).length = 9 := rfl
  generalize okS s = K at *
  generalize spanRow s = l at *
  obtain ⟨a0, b0, a1, b1, a2, b2, a3, b3, a4, b4, a5, b5, a6, b6, a7, b7⟩ := s
  (try dsimp only at *)
  have HS := Lib.hid (show ∀ W, Calls Try.prog 72 #[.agg #[.int .i64 a0, .int .i64 b0, .int .i64 a1, .int .i64 b1, .int .i64 a2, .int .i64 b2, .int .i64 a3, .int .i64 b3, .int .i64 a4, .int .i64 b4, .int .i64 a5, .int .i64 b5, .int .i64 a6, .int .i64 b6, .int .i64 a7, .int .i64 b7]] W (fun e w' => ∃ b : Nat, e = .returned (.slice (some ⟨b, 0, none⟩) 9 9) ∧ IsT 2 SpanD.cells w' (some ⟨b, 0, none⟩) 9 l ∧ Below W.heap.size W w') from HS0.out)
  clear HS0
  show Calls Try.prog 33 #[.agg #[.int .i64 a0, .int .i64 b0, .int .i64 a1, .int .i64 b1, .int .i64 a2, .int .i64 b2, .int .i64 a3, .int .i64 b3, .int .i64 a4, .int .i64 b4, .int .i64 a5, .int .i64 b5, .int .i64 a6, .int .i64 b6, .int .i64 a7, .int .i64 b7]] w _
  go_enter Try.func33, Try.ntmps33
  go_upto_region 1 with (fail)
  have Fs : Hid (RowL (w.heap.size) [.int .i64 a0, .int .i64 b0, .int .i64 a1, .int .i64 b1, .int .i64 a2, .int .i64 b2, .int .i64 a3, .int .i64 b3, .int .i64 a4, .int .i64 b4, .int .i64 a5, .int .i64 b5, .int .i64 a6, .int .i64 b6, .int .i64 a7, .int .i64 b7] (w.alloc (.cells #[.int .i64 a0, .int .i64 b0, .int .i64 a1, .int .i64 b1, .int .i64 a2, .int .i64 b2, .int .i64 a3, .int .i64 b3, .int .i64 a4, .int .i64 b4, .int .i64 a5, .int .i64 b5, .int .i64 a6, .int .i64 b6, .int .i64 a7, .int .i64 b7] 47))) := Lib.hid (by have h := RowL.new w #[.int .i64 a0, .int .i64 b0, .int .i64 a1, .int .i64 b1, .int .i64 a2, .int .i64 b2, .int .i64 a3, .int .i64 b3, .int .i64 a4, .int .i64 b4, .int .i64 a5, .int .i64 b5, .int .i64 a6, .int .i64 b6, .int .i64 a7, .int .i64 b7] 47; (try simp only [World.size_alloc] at h); exact h)
  have hB0 : Below w.heap.size w (w.alloc (.cells #[.int .i64 a0, .int .i64 b0, .int .i64 a1, .int .i64 b1, .int .i64 a2, .int .i64 b2, .int .i64 a3, .int .i64 b3, .int .i64 a4, .int .i64 b4, .int .i64 a5, .int .i64 b5, .int .i64 a6, .int .i64 b6, .int .i64 a7, .int .i64 b7] 47)) := by (repeat first | with_reducible exact Below.refl _ _ | with_reducible assumption | (with_reducible refine Below.setCell ?_ ?_ _; rotate_left; exact (by first | omega | (simp; done) | (simp; omega))) | (with_reducible refine Below.alloc ?_ ?_ _; rotate_left; exact (by first | omega | (simp; done) | (simp; omega))) | with_reducible refine Below.drew ?_ | with_reducible refine Below_drewN ?_ _)
  have sW0 : w.heap.size < (w.alloc (.cells #[.int .i64 a0, .int .i64 b0, .int .i64 a1, .int .i64 b1, .int .i64 a2, .int .i64 b2, .int .i64 a3, .int .i64 b3, .int .i64 a4, .int .i64 b4, .int .i64 a5, .int .i64 b5, .int .i64 a6, .int .i64 b6, .int .i64 a7, .int .i64 b7] 47)).heap.size := by simp only [World.size_alloc]; omega
  obtain ⟨W0, hW0⟩ : ∃ W, (w.alloc (.cells #[.int .i64 a0, .int .i64 b0, .int .i64 a1, .int .i64 b1, .int .i64 a2, .int .i64 b2, .int .i64 a3, .int .i64 b3, .int .i64 a4, .int .i64 b4, .int .i64 a5, .int .i64 b5, .int .i64 a6, .int .i64 b6, .int .i64 a7, .int .i64 b7] 47)) = W := ⟨_, rfl⟩
  rw [hW0] at Fs hB0 sW0 ⊢
  clear hW0
  have s0 := Fs.out.cell 0 (.int .i64 a0) rfl
  have s1 := Fs.out.cell 1 (.int .i64 b0) rfl
  have s2 := Fs.out.cell 2 (.int .i64 a1) rfl
  have s3 := Fs.out.cell 3 (.int .i64 b1) rfl
  have s4 := Fs.out.cell 4 (.int .i64 a2) rfl
  have s5 := Fs.out.cell 5 (.int .i64 b2) rfl
  have s6 := Fs.out.cell 6 (.int .i64 a3) rfl
  have s7 := Fs.out.cell 7 (.int .i64 b3) rfl
  have s8 := Fs.out.cell 8 (.int .i64 a4) rfl
  have s9 := Fs.out.cell 9 (.int .i64 b4) rfl
  have s10 := Fs.out.cell 10 (.int .i64 a5) rfl
  have s11 := Fs.out.cell 11 (.int .i64 b5) rfl
  have s12 := Fs.out.cell 12 (.int .i64 a6) rfl
  have s13 := Fs.out.cell 13 (.int .i64 b6) rfl
  have s14 := Fs.out.cell 14 (.int .i64 a7) rfl
  have s15 := Fs.out.cell 15 (.int .i64 b7) rfl
  go_wp2_with fail
  refine (HS.out _).mono ?_
  rintro e w1 ⟨b, rfl, hI, hb⟩
  have hB1 := hB0.trans (hb.mono hB0.size)
  have HI := Lib.hid hI
  clear hI hb HS Fs s0 s1 s2 s3 s4 s5 s6 s7 s8 s9 s10 s11 s12 s13 s14 s15
  have blt : b < w1.heap.size := by
    obtain ⟨b', o', h1, h2, -⟩ := HI.out.2 (by omega)
    have := Option.some.inj h1
    simp only [Addr.mk.injEq] at this
    omega
  go_wp2_with fail
  go_loopw [4] (fun i wr => ∃ j : Nat, j ≤ 9 ∧ i = .int .i64 j ∧ Hid (((l.drop j).all fun x => vld x.lo x.hi) = K) ∧ Below w1.heap.size w1 wr) (fun i _ => 9 - (intOf i).toNat)
  case atStart => exact ⟨0, by omega, rfl, HG0, Below.refl _ _⟩
  case round =>
    obtain ⟨j, hj, rfl, hG, hB⟩ := hrel
    have sz := hB.size
    have sz1 := hB1.size
    by_cases hlt : j < 9
    · obtain ⟨-, hcl⟩ := HI.out.below hB
      obtain ⟨b', o, hbo, hb0, hcl⟩ := hcl (by omega)
      have hbo := Option.some.inj hbo
      simp only [Addr.mk.injEq] at hbo
      obtain ⟨rfl, rfl, -⟩ := hbo
      obtain ⟨x, hx⟩ : ∃ x, l[j]? = some x := ⟨_, List.getElem?_eq_getElem (by omega)⟩
      have HD := Lib.hid (all_drop hx)
      obtain ⟨lo, hi⟩ := x
      have x0 : wr.cell? ⟨b, 0 + j * 2, none⟩ = some (.int .i64 lo) := by have h := hcl j _ hx 0 _ rfl; simpa using h
      have x1 : wr.cell? ⟨b, 0 + j * 2 + 1, none⟩ = some (.int .i64 hi) := by have h := hcl j _ hx 1 _ rfl; simpa using h
      rw [Nat.zero_add] at x0 x1
      have HV := Lib.hid (fun W => rvalid_any lo hi W)
      have jn : ((j : Int)).toNat = j := by omega
      have j0 : (0 : Int) ≤ j := by omega
      clear hcl hx HG0
      cases hp : vld lo hi
      · rw [hp] at HV
        have HN : Hid (false = K) := Lib.hid (by rw [← hG.out, HD.out]; dsimp only; rw [hp]; rfl)
        clear HD hp
        go_wp2_with fail
        refine (HV.out _).mono ?_
        rintro e w2 ⟨rfl, hb2⟩
        go_wp2_with fail
        go_ret
        exact ⟨by rw [← HN.out]; rfl, by first | (((repeat first | with_reducible exact Below.refl _ _ | with_reducible assumption | (with_reducible refine Below.setCell ?_ ?_ _; rotate_left; exact (by first | omega | (simp; done) | (simp; omega))) | (with_reducible refine Below.alloc ?_ ?_ _; rotate_left; exact (by first | omega | (simp; done) | (simp; omega))) | with_reducible refine Below.drew ?_ | with_reducible refine Below_drewN ?_ _)); done) | exact hB1.trans ((hB.trans (hb2.mono hB.size)).mono hB1.size) | exact hB1.trans (hB.mono hB1.size)⟩
      · rw [hp] at HV
        have HN : Hid (((l.drop (j + 1)).all fun x => vld x.lo x.hi) = K) := Lib.hid (by rw [← hG.out, HD.out]; dsimp only; rw [hp]; rfl)
        clear HD hp
        go_wp2_with fail
        refine (HV.out _).mono ?_
        rintro e w2 ⟨rfl, hb2⟩
        have hB2 := hB.trans (hb2.mono hB.size)
        go_wp2_with fail
        go_roundw
        case rel => exact ⟨j + 1, by omega, by go_num, HN, hB2⟩
        case measure => simp [intOf]; omega
    · have HN : Hid (true = K) := Lib.hid (by rw [← hG.out, List.drop_of_length_le (by omega)]; rfl)
      go_wp2_with fail
      go_ret
      exact ⟨by rw [← HN.out]; rfl, by first | (((repeat first | with_reducible exact Below.refl _ _ | with_reducible assumption | (with_reducible refine Below.setCell ?_ ?_ _; rotate_left; exact (by first | omega | (simp; done) | (simp; omega))) | (with_reducible refine Below.alloc ?_ ?_ _; rotate_left; exact (by first | omega | (simp; done) | (simp; omega))) | with_reducible refine Below.drew ?_ | with_reducible refine Below_drewN ?_ _)); done) | exact hB1.trans ((hB.trans (hb2.mono hB.size)).mono hB1.size) | exact hB1.trans (hB.mono hB1.size)⟩

end Go.Proofs.Ytnplgnennmhkeaa
end
section
/- The specification of layer 7: ValidSetup, over this seat's translation (written by mk_ctt.py). -/
namespace Go.Proofs.Ytnplgnennmhkeaa
set_option linter.unusedVariables false
set_option linter.unusedSimpArgs false
open Go.RowKit Go.Shelf

theorem strong_drop {gs : List GainD} {j : Nat} {x : GainD} (h : gs[j]? = some x) : (gs.drop j).any strongB = (strongB x || (gs.drop (j + 1)).any strongB) := by
  obtain ⟨k1, rfl⟩ := List.getElem?_eq_some_iff.1 h
  rw [List.drop_eq_getElem_cons k1, List.any_cons]
theorem four_drop {l : List Int} {j : Nat} {x : Int} (h : l[j]? = some x) : (l.drop j).any (fun n => !wthn n (-1000000) 1000000) = (!wthn x (-1000000) 1000000 || (l.drop (j + 1)).any (fun n => !wthn n (-1000000) 1000000)) := by
  obtain ⟨k1, rfl⟩ := List.getElem?_eq_some_iff.1 h
  rw [List.drop_eq_getElem_cons k1, List.any_cons]

set_option maxRecDepth 100000 in
set_option maxHeartbeats 8000000 in
theorem rsetup_any (R : MachR) (M : MachD) (G : Option Addr) (ng cg : Nat) (gs : List GainD) (most : Int) (w : World) (hM : IsM w R M) (hG : IsT 4 GainD.cells w G ng gs) (hn : ng ≤ 1000000000000000) :
    Calls Try.prog 10 #[.agg (machCells R M), .agg #[.slice G ng cg, .int .i64 most]] w (Ret (.bool (setupB M gs most)) w) := by
  have HC0 := Lib.hid (fun W (hb : Below w.heap.size w W) => rcheck_any R M W (hM.below hb))
  have HS : Hid ((decide (checkC M = 0) && (decide (ng = R.la) && (!(gs.any strongB) && wthn most 0 1000000000))) = setupB M gs most) := Lib.hid (by unfold setupB; rw [hG.1, hM.coils.1])
  have HG0 : Hid ((gs.drop 0).any strongB = gs.any strongB) := Lib.hid rfl
  have hgl := hG.1
  have IG := Lib.hid hG
  clear hM hG
  generalize setupB M gs most = K at *
  generalize checkC M = c at *
  generalize gs.any strongB = q at *
  obtain ⟨A, B, Cl, D, la, ca, lb, cb, lc, cl, ld, cd⟩ := R
  obtain ⟨name, coils, shells, limits, ⟨r, z, nr, nz, step⟩, sensors⟩ := M
  dsimp only at *
  have HC := Lib.hid (show ∀ W, Below w.heap.size w W → Calls Try.prog 27 #[.agg #[.string name, .slice A la ca, .slice B lb cb, .slice Cl lc cl, .int .i64 r, .int .i64 z, .int .i64 nr, .int .i64 nz, .int .i64 step, .slice D ld cd]] W (Ret (.int .i64 c) W) from HC0.out)
  clear HC0
  show Calls Try.prog 10 #[.agg #[.string name, .slice A la ca, .slice B lb cb, .slice Cl lc cl, .int .i64 r, .int .i64 z, .int .i64 nr, .int .i64 nz, .int .i64 step, .slice D ld cd], .agg #[.slice G ng cg, .int .i64 most]] w _
  by_cases hc : c = 0
  rotate_left
  · rw [decide_eq_false hc] at HS
    have d0 : (c != 0) = true := by rw [bne_iff_ne]; exact hc
    clear hc
    go_enter Try.func10, Try.ntmps10
    go_upto_region 1 with (fail)
    have Fm : Hid (RowL (w.heap.size) [.string name, .slice A la ca, .slice B lb cb, .slice Cl lc cl, .int .i64 r, .int .i64 z, .int .i64 nr, .int .i64 nz, .int .i64 step, .slice D ld cd] ((w.alloc (.cells #[.string name, .slice A la ca, .slice B lb cb, .slice Cl lc cl, .int .i64 r, .int .i64 z, .int .i64 nr, .int .i64 nz, .int .i64 step, .slice D ld cd] 29)).alloc (.cells #[.slice G ng cg, .int .i64 most] 32))) := Lib.hid (by have h := RowL.new w #[.string name, .slice A la ca, .slice B lb cb, .slice Cl lc cl, .int .i64 r, .int .i64 z, .int .i64 nr, .int .i64 nz, .int .i64 step, .slice D ld cd] 29; (try simp only [World.size_alloc] at h); exact (h.alloc _))
    have Fx : Hid (RowL (w.heap.size + 1) [.slice G ng cg, .int .i64 most] ((w.alloc (.cells #[.string name, .slice A la ca, .slice B lb cb, .slice Cl lc cl, .int .i64 r, .int .i64 z, .int .i64 nr, .int .i64 nz, .int .i64 step, .slice D ld cd] 29)).alloc (.cells #[.slice G ng cg, .int .i64 most] 32))) := Lib.hid (by have h := RowL.new (w.alloc (.cells #[.string name, .slice A la ca, .slice B lb cb, .slice Cl lc cl, .int .i64 r, .int .i64 z, .int .i64 nr, .int .i64 nz, .int .i64 step, .slice D ld cd] 29)) #[.slice G ng cg, .int .i64 most] 32; (try simp only [World.size_alloc] at h); exact h)
    have hB0 : Below w.heap.size w ((w.alloc (.cells #[.string name, .slice A la ca, .slice B lb cb, .slice Cl lc cl, .int .i64 r, .int .i64 z, .int .i64 nr, .int .i64 nz, .int .i64 step, .slice D ld cd] 29)).alloc (.cells #[.slice G ng cg, .int .i64 most] 32)) := by (repeat first | with_reducible exact Below.refl _ _ | with_reducible assumption | (with_reducible refine Below.setCell ?_ ?_ _; rotate_left; exact (by first | omega | (simp; done) | (simp; omega))) | (with_reducible refine Below.alloc ?_ ?_ _; rotate_left; exact (by first | omega | (simp; done) | (simp; omega))) | with_reducible refine Below.drew ?_ | with_reducible refine Below_drewN ?_ _)
    have sW0 : w.heap.size + 1 < ((w.alloc (.cells #[.string name, .slice A la ca, .slice B lb cb, .slice Cl lc cl, .int .i64 r, .int .i64 z, .int .i64 nr, .int .i64 nz, .int .i64 step, .slice D ld cd] 29)).alloc (.cells #[.slice G ng cg, .int .i64 most] 32)).heap.size := by simp only [World.size_alloc]; omega
    obtain ⟨W0, hW0⟩ : ∃ W, ((w.alloc (.cells #[.string name, .slice A la ca, .slice B lb cb, .slice Cl lc cl, .int .i64 r, .int .i64 z, .int .i64 nr, .int .i64 nz, .int .i64 step, .slice D ld cd] 29)).alloc (.cells #[.slice G ng cg, .int .i64 most] 32)) = W := ⟨_, rfl⟩
    rw [hW0] at Fm Fx hB0 sW0 ⊢
    clear hW0
    have m0 := Fm.out.cell 0 (.string name) rfl
    have m1 := Fm.out.cell 1 (.slice A la ca) rfl
    have m2 := Fm.out.cell 2 (.slice B lb cb) rfl
    have m3 := Fm.out.cell 3 (.slice Cl lc cl) rfl
    have m4 := Fm.out.cell 4 (.int .i64 r) rfl
    have m5 := Fm.out.cell 5 (.int .i64 z) rfl
    have m6 := Fm.out.cell 6 (.int .i64 nr) rfl
    have m7 := Fm.out.cell 7 (.int .i64 nz) rfl
    have m8 := Fm.out.cell 8 (.int .i64 step) rfl
    have m9 := Fm.out.cell 9 (.slice D ld cd) rfl
    have x0 := Fx.out.cell 0 (.slice G ng cg) rfl
    have x1 := Fx.out.cell 1 (.int .i64 most) rfl
    go_wp2_with fail
    refine (HC.out _ hB0).mono ?_
    rintro e w1 ⟨rfl, hb⟩
    clear m0 m1 m2 m3 m4 m5 m6 m7 m8 m9 x0 x1
    have Gm := Lib.hid (Fm.out.below hb)
    clear Fm
    have Fm := Lib.hid Gm.out
    clear Gm
    have Gx := Lib.hid (Fx.out.below hb)
    clear Fx
    have Fx := Lib.hid Gx.out
    clear Gx
    have m0 := Fm.out.cell 0 (.string name) rfl
    have m1 := Fm.out.cell 1 (.slice A la ca) rfl
    have m2 := Fm.out.cell 2 (.slice B lb cb) rfl
    have m3 := Fm.out.cell 3 (.slice Cl lc cl) rfl
    have m4 := Fm.out.cell 4 (.int .i64 r) rfl
    have m5 := Fm.out.cell 5 (.int .i64 z) rfl
    have m6 := Fm.out.cell 6 (.int .i64 nr) rfl
    have m7 := Fm.out.cell 7 (.int .i64 nz) rfl
    have m8 := Fm.out.cell 8 (.int .i64 step) rfl
    have m9 := Fm.out.cell 9 (.slice D ld cd) rfl
    have x0 := Fx.out.cell 0 (.slice G ng cg) rfl
    have x1 := Fx.out.cell 1 (.int .i64 most) rfl
    have hBw1 := hB0.trans (hb.mono hB0.size)
    clear hb
    go_wp2_with fail
    go_ret
    exact ⟨by rw [← HS.out]; simp, by (repeat first | with_reducible exact Below.refl _ _ | with_reducible assumption | (with_reducible refine Below.setCell ?_ ?_ _; rotate_left; exact (by first | omega | (simp; done) | (simp; omega))) | (with_reducible refine Below.alloc ?_ ?_ _; rotate_left; exact (by first | omega | (simp; done) | (simp; omega))) | with_reducible refine Below.drew ?_ | with_reducible refine Below_drewN ?_ _)⟩
  subst hc
  rw [decide_eq_true (rfl : (0 : Int) = 0)] at HS
  by_cases hl : ng = la
  rotate_left
  · rw [decide_eq_false hl] at HS
    have e0 := (int_eq ng la).trans (decide_eq_false hl)
    have e1 : ((ng : Int) != (la : Int)) = true := by rw [bne, e0]; rfl
    clear hl e0
    go_enter Try.func10, Try.ntmps10
    go_upto_region 1 with (fail)
    have Fm : Hid (RowL (w.heap.size) [.string name, .slice A la ca, .slice B lb cb, .slice Cl lc cl, .int .i64 r, .int .i64 z, .int .i64 nr, .int .i64 nz, .int .i64 step, .slice D ld cd] ((w.alloc (.cells #[.string name, .slice A la ca, .slice B lb cb, .slice Cl lc cl, .int .i64 r, .int .i64 z, .int .i64 nr, .int .i64 nz, .int .i64 step, .slice D ld cd] 29)).alloc (.cells #[.slice G ng cg, .int .i64 most] 32))) := Lib.hid (by have h := RowL.new w #[.string name, .slice A la ca, .slice B lb cb, .slice Cl lc cl, .int .i64 r, .int .i64 z, .int .i64 nr, .int .i64 nz, .int .i64 step, .slice D ld cd] 29; (try simp only [World.size_alloc] at h); exact (h.alloc _))
    have Fx : Hid (RowL (w.heap.size + 1) [.slice G ng cg, .int .i64 most] ((w.alloc (.cells #[.string name, .slice A la ca, .slice B lb cb, .slice Cl lc cl, .int .i64 r, .int .i64 z, .int .i64 nr, .int .i64 nz, .int .i64 step, .slice D ld cd] 29)).alloc (.cells #[.slice G ng cg, .int .i64 most] 32))) := Lib.hid (by have h := RowL.new (w.alloc (.cells #[.string name, .slice A la ca, .slice B lb cb, .slice Cl lc cl, .int .i64 r, .int .i64 z, .int .i64 nr, .int .i64 nz, .int .i64 step, .slice D ld cd] 29)) #[.slice G ng cg, .int .i64 most] 32; (try simp only [World.size_alloc] at h); exact h)
    have hB0 : Below w.heap.size w ((w.alloc (.cells #[.string name, .slice A la ca, .slice B lb cb, .slice Cl lc cl, .int .i64 r, .int .i64 z, .int .i64 nr, .int .i64 nz, .int .i64 step, .slice D ld cd] 29)).alloc (.cells #[.slice G ng cg, .int .i64 most] 32)) := by (repeat first | with_reducible exact Below.refl _ _ | with_reducible assumption | (with_reducible refine Below.setCell ?_ ?_ _; rotate_left; exact (by first | omega | (simp; done) | (simp; omega))) | (with_reducible refine Below.alloc ?_ ?_ _; rotate_left; exact (by first | omega | (simp; done) | (simp; omega))) | with_reducible refine Below.drew ?_ | with_reducible refine Below_drewN ?_ _)
    have sW0 : w.heap.size + 1 < ((w.alloc (.cells #[.string name, .slice A la ca, .slice B lb cb, .slice Cl lc cl, .int .i64 r, .int .i64 z, .int .i64 nr, .int .i64 nz, .int .i64 step, .slice D ld cd] 29)).alloc (.cells #[.slice G ng cg, .int .i64 most] 32)).heap.size := by simp only [World.size_alloc]; omega
    obtain ⟨W0, hW0⟩ : ∃ W, ((w.alloc (.cells #[.string name, .slice A la ca, .slice B lb cb, .slice Cl lc cl, .int .i64 r, .int .i64 z, .int .i64 nr, .int .i64 nz, .int .i64 step, .slice D ld cd] 29)).alloc (.cells #[.slice G ng cg, .int .i64 most] 32)) = W := ⟨_, rfl⟩
    rw [hW0] at Fm Fx hB0 sW0 ⊢
    clear hW0
    have m0 := Fm.out.cell 0 (.string name) rfl
    have m1 := Fm.out.cell 1 (.slice A la ca) rfl
    have m2 := Fm.out.cell 2 (.slice B lb cb) rfl
    have m3 := Fm.out.cell 3 (.slice Cl lc cl) rfl
    have m4 := Fm.out.cell 4 (.int .i64 r) rfl
    have m5 := Fm.out.cell 5 (.int .i64 z) rfl
    have m6 := Fm.out.cell 6 (.int .i64 nr) rfl
    have m7 := Fm.out.cell 7 (.int .i64 nz) rfl
    have m8 := Fm.out.cell 8 (.int .i64 step) rfl
    have m9 := Fm.out.cell 9 (.slice D ld cd) rfl
    have x0 := Fx.out.cell 0 (.slice G ng cg) rfl
    have x1 := Fx.out.cell 1 (.int .i64 most) rfl
    go_wp2_with fail
    refine (HC.out _ hB0).mono ?_
    rintro e w1 ⟨rfl, hb⟩
    clear m0 m1 m2 m3 m4 m5 m6 m7 m8 m9 x0 x1
    have Gm := Lib.hid (Fm.out.below hb)
    clear Fm
    have Fm := Lib.hid Gm.out
    clear Gm
    have Gx := Lib.hid (Fx.out.below hb)
    clear Fx
    have Fx := Lib.hid Gx.out
    clear Gx
    have m0 := Fm.out.cell 0 (.string name) rfl
    have m1 := Fm.out.cell 1 (.slice A la ca) rfl
    have m2 := Fm.out.cell 2 (.slice B lb cb) rfl
    have m3 := Fm.out.cell 3 (.slice Cl lc cl) rfl
    have m4 := Fm.out.cell 4 (.int .i64 r) rfl
    have m5 := Fm.out.cell 5 (.int .i64 z) rfl
    have m6 := Fm.out.cell 6 (.int .i64 nr) rfl
    have m7 := Fm.out.cell 7 (.int .i64 nz) rfl
    have m8 := Fm.out.cell 8 (.int .i64 step) rfl
    have m9 := Fm.out.cell 9 (.slice D ld cd) rfl
    have x0 := Fx.out.cell 0 (.slice G ng cg) rfl
    have x1 := Fx.out.cell 1 (.int .i64 most) rfl
    have hBw1 := hB0.trans (hb.mono hB0.size)
    clear hb
    go_wp2_with fail
    go_ret
    exact ⟨by rw [← HS.out]; simp, by (repeat first | with_reducible exact Below.refl _ _ | with_reducible assumption | (with_reducible refine Below.setCell ?_ ?_ _; rotate_left; exact (by first | omega | (simp; done) | (simp; omega))) | (with_reducible refine Below.alloc ?_ ?_ _; rotate_left; exact (by first | omega | (simp; done) | (simp; omega))) | with_reducible refine Below.drew ?_ | with_reducible refine Below_drewN ?_ _)⟩
  subst hl
  rw [decide_eq_true rfl] at HS
  have e1 : ((ng : Int) != (ng : Int)) = false := by simp
  cases hw : wthn most 0 1000000000
  · rw [hw] at HS
    go_enter Try.func10, Try.ntmps10
    go_upto_region 1 with (fail)
    have Fm : Hid (RowL (w.heap.size) [.string name, .slice A ng ca, .slice B lb cb, .slice Cl lc cl, .int .i64 r, .int .i64 z, .int .i64 nr, .int .i64 nz, .int .i64 step, .slice D ld cd] ((w.alloc (.cells #[.string name, .slice A ng ca, .slice B lb cb, .slice Cl lc cl, .int .i64 r, .int .i64 z, .int .i64 nr, .int .i64 nz, .int .i64 step, .slice D ld cd] 29)).alloc (.cells #[.slice G ng cg, .int .i64 most] 32))) := Lib.hid (by have h := RowL.new w #[.string name, .slice A ng ca, .slice B lb cb, .slice Cl lc cl, .int .i64 r, .int .i64 z, .int .i64 nr, .int .i64 nz, .int .i64 step, .slice D ld cd] 29; (try simp only [World.size_alloc] at h); exact (h.alloc _))
    have Fx : Hid (RowL (w.heap.size + 1) [.slice G ng cg, .int .i64 most] ((w.alloc (.cells #[.string name, .slice A ng ca, .slice B lb cb, .slice Cl lc cl, .int .i64 r, .int .i64 z, .int .i64 nr, .int .i64 nz, .int .i64 step, .slice D ld cd] 29)).alloc (.cells #[.slice G ng cg, .int .i64 most] 32))) := Lib.hid (by have h := RowL.new (w.alloc (.cells #[.string name, .slice A ng ca, .slice B lb cb, .slice Cl lc cl, .int .i64 r, .int .i64 z, .int .i64 nr, .int .i64 nz, .int .i64 step, .slice D ld cd] 29)) #[.slice G ng cg, .int .i64 most] 32; (try simp only [World.size_alloc] at h); exact h)
    have hB0 : Below w.heap.size w ((w.alloc (.cells #[.string name, .slice A ng ca, .slice B lb cb, .slice Cl lc cl, .int .i64 r, .int .i64 z, .int .i64 nr, .int .i64 nz, .int .i64 step, .slice D ld cd] 29)).alloc (.cells #[.slice G ng cg, .int .i64 most] 32)) := by (repeat first | with_reducible exact Below.refl _ _ | with_reducible assumption | (with_reducible refine Below.setCell ?_ ?_ _; rotate_left; exact (by first | omega | (simp; done) | (simp; omega))) | (with_reducible refine Below.alloc ?_ ?_ _; rotate_left; exact (by first | omega | (simp; done) | (simp; omega))) | with_reducible refine Below.drew ?_ | with_reducible refine Below_drewN ?_ _)
    have sW0 : w.heap.size + 1 < ((w.alloc (.cells #[.string name, .slice A ng ca, .slice B lb cb, .slice Cl lc cl, .int .i64 r, .int .i64 z, .int .i64 nr, .int .i64 nz, .int .i64 step, .slice D ld cd] 29)).alloc (.cells #[.slice G ng cg, .int .i64 most] 32)).heap.size := by simp only [World.size_alloc]; omega
    obtain ⟨W0, hW0⟩ : ∃ W, ((w.alloc (.cells #[.string name, .slice A ng ca, .slice B lb cb, .slice Cl lc cl, .int .i64 r, .int .i64 z, .int .i64 nr, .int .i64 nz, .int .i64 step, .slice D ld cd] 29)).alloc (.cells #[.slice G ng cg, .int .i64 most] 32)) = W := ⟨_, rfl⟩
    rw [hW0] at Fm Fx hB0 sW0 ⊢
    clear hW0
    have m0 := Fm.out.cell 0 (.string name) rfl
    have m1 := Fm.out.cell 1 (.slice A ng ca) rfl
    have m2 := Fm.out.cell 2 (.slice B lb cb) rfl
    have m3 := Fm.out.cell 3 (.slice Cl lc cl) rfl
    have m4 := Fm.out.cell 4 (.int .i64 r) rfl
    have m5 := Fm.out.cell 5 (.int .i64 z) rfl
    have m6 := Fm.out.cell 6 (.int .i64 nr) rfl
    have m7 := Fm.out.cell 7 (.int .i64 nz) rfl
    have m8 := Fm.out.cell 8 (.int .i64 step) rfl
    have m9 := Fm.out.cell 9 (.slice D ld cd) rfl
    have x0 := Fx.out.cell 0 (.slice G ng cg) rfl
    have x1 := Fx.out.cell 1 (.int .i64 most) rfl
    go_wp2_with fail
    refine (HC.out _ hB0).mono ?_
    rintro e w1 ⟨rfl, hb⟩
    clear m0 m1 m2 m3 m4 m5 m6 m7 m8 m9 x0 x1
    have Gm := Lib.hid (Fm.out.below hb)
    clear Fm
    have Fm := Lib.hid Gm.out
    clear Gm
    have Gx := Lib.hid (Fx.out.below hb)
    clear Fx
    have Fx := Lib.hid Gx.out
    clear Gx
    have m0 := Fm.out.cell 0 (.string name) rfl
    have m1 := Fm.out.cell 1 (.slice A ng ca) rfl
    have m2 := Fm.out.cell 2 (.slice B lb cb) rfl
    have m3 := Fm.out.cell 3 (.slice Cl lc cl) rfl
    have m4 := Fm.out.cell 4 (.int .i64 r) rfl
    have m5 := Fm.out.cell 5 (.int .i64 z) rfl
    have m6 := Fm.out.cell 6 (.int .i64 nr) rfl
    have m7 := Fm.out.cell 7 (.int .i64 nz) rfl
    have m8 := Fm.out.cell 8 (.int .i64 step) rfl
    have m9 := Fm.out.cell 9 (.slice D ld cd) rfl
    have x0 := Fx.out.cell 0 (.slice G ng cg) rfl
    have x1 := Fx.out.cell 1 (.int .i64 most) rfl
    have hBw1 := hB0.trans (hb.mono hB0.size)
    clear hb
    go_wp2_with (go_at_call 28; refine (rwithin7_any _ _ _ _).mono ?_; rintro e w9 ⟨rfl, rfl⟩; rw [hw])
    go_ret
    exact ⟨by rw [← HS.out]; simp, by (repeat first | with_reducible exact Below.refl _ _ | with_reducible assumption | (with_reducible refine Below.setCell ?_ ?_ _; rotate_left; exact (by first | omega | (simp; done) | (simp; omega))) | (with_reducible refine Below.alloc ?_ ?_ _; rotate_left; exact (by first | omega | (simp; done) | (simp; omega))) | with_reducible refine Below.drew ?_ | with_reducible refine Below_drewN ?_ _)⟩
  rw [hw] at HS
  have HE : Hid ((!q) = K) := Lib.hid (by rw [← HS.out]; simp)
  clear HS
  go_enter Try.func10, Try.ntmps10
  go_upto_region 1 with (fail)
  have Fm : Hid (RowL (w.heap.size) [.string name, .slice A ng ca, .slice B lb cb, .slice Cl lc cl, .int .i64 r, .int .i64 z, .int .i64 nr, .int .i64 nz, .int .i64 step, .slice D ld cd] ((w.alloc (.cells #[.string name, .slice A ng ca, .slice B lb cb, .slice Cl lc cl, .int .i64 r, .int .i64 z, .int .i64 nr, .int .i64 nz, .int .i64 step, .slice D ld cd] 29)).alloc (.cells #[.slice G ng cg, .int .i64 most] 32))) := Lib.hid (by have h := RowL.new w #[.string name, .slice A ng ca, .slice B lb cb, .slice Cl lc cl, .int .i64 r, .int .i64 z, .int .i64 nr, .int .i64 nz, .int .i64 step, .slice D ld cd] 29; (try simp only [World.size_alloc] at h); exact (h.alloc _))
  have Fx : Hid (RowL (w.heap.size + 1) [.slice G ng cg, .int .i64 most] ((w.alloc (.cells #[.string name, .slice A ng ca, .slice B lb cb, .slice Cl lc cl, .int .i64 r, .int .i64 z, .int .i64 nr, .int .i64 nz, .int .i64 step, .slice D ld cd] 29)).alloc (.cells #[.slice G ng cg, .int .i64 most] 32))) := Lib.hid (by have h := RowL.new (w.alloc (.cells #[.string name, .slice A ng ca, .slice B lb cb, .slice Cl lc cl, .int .i64 r, .int .i64 z, .int .i64 nr, .int .i64 nz, .int .i64 step, .slice D ld cd] 29)) #[.slice G ng cg, .int .i64 most] 32; (try simp only [World.size_alloc] at h); exact h)
  have hB0 : Below w.heap.size w ((w.alloc (.cells #[.string name, .slice A ng ca, .slice B lb cb, .slice Cl lc cl, .int .i64 r, .int .i64 z, .int .i64 nr, .int .i64 nz, .int .i64 step, .slice D ld cd] 29)).alloc (.cells #[.slice G ng cg, .int .i64 most] 32)) := by (repeat first | with_reducible exact Below.refl _ _ | with_reducible assumption | (with_reducible refine Below.setCell ?_ ?_ _; rotate_left; exact (by first | omega | (simp; done) | (simp; omega))) | (with_reducible refine Below.alloc ?_ ?_ _; rotate_left; exact (by first | omega | (simp; done) | (simp; omega))) | with_reducible refine Below.drew ?_ | with_reducible refine Below_drewN ?_ _)
  have sW0 : w.heap.size + 1 < ((w.alloc (.cells #[.string name, .slice A ng ca, .slice B lb cb, .slice Cl lc cl, .int .i64 r, .int .i64 z, .int .i64 nr, .int .i64 nz, .int .i64 step, .slice D ld cd] 29)).alloc (.cells #[.slice G ng cg, .int .i64 most] 32)).heap.size := by simp only [World.size_alloc]; omega
  obtain ⟨W0, hW0⟩ : ∃ W, ((w.alloc (.cells #[.string name, .slice A ng ca, .slice B lb cb, .slice Cl lc cl, .int .i64 r, .int .i64 z, .int .i64 nr, .int .i64 nz, .int .i64 step, .slice D ld cd] 29)).alloc (.cells #[.slice G ng cg, .int .i64 most] 32)) = W := ⟨_, rfl⟩
  rw [hW0] at Fm Fx hB0 sW0 ⊢
  clear hW0
  have m0 := Fm.out.cell 0 (.string name) rfl
  have m1 := Fm.out.cell 1 (.slice A ng ca) rfl
  have m2 := Fm.out.cell 2 (.slice B lb cb) rfl
  have m3 := Fm.out.cell 3 (.slice Cl lc cl) rfl
  have m4 := Fm.out.cell 4 (.int .i64 r) rfl
  have m5 := Fm.out.cell 5 (.int .i64 z) rfl
  have m6 := Fm.out.cell 6 (.int .i64 nr) rfl
  have m7 := Fm.out.cell 7 (.int .i64 nz) rfl
  have m8 := Fm.out.cell 8 (.int .i64 step) rfl
  have m9 := Fm.out.cell 9 (.slice D ld cd) rfl
  have x0 := Fx.out.cell 0 (.slice G ng cg) rfl
  have x1 := Fx.out.cell 1 (.int .i64 most) rfl
  go_wp2_with fail
  refine (HC.out _ hB0).mono ?_
  rintro e w1 ⟨rfl, hb⟩
  clear m0 m1 m2 m3 m4 m5 m6 m7 m8 m9 x0 x1
  have Gm := Lib.hid (Fm.out.below hb)
  clear Fm
  have Fm := Lib.hid Gm.out
  clear Gm
  have Gx := Lib.hid (Fx.out.below hb)
  clear Fx
  have Fx := Lib.hid Gx.out
  clear Gx
  have m0 := Fm.out.cell 0 (.string name) rfl
  have m1 := Fm.out.cell 1 (.slice A ng ca) rfl
  have m2 := Fm.out.cell 2 (.slice B lb cb) rfl
  have m3 := Fm.out.cell 3 (.slice Cl lc cl) rfl
  have m4 := Fm.out.cell 4 (.int .i64 r) rfl
  have m5 := Fm.out.cell 5 (.int .i64 z) rfl
  have m6 := Fm.out.cell 6 (.int .i64 nr) rfl
  have m7 := Fm.out.cell 7 (.int .i64 nz) rfl
  have m8 := Fm.out.cell 8 (.int .i64 step) rfl
  have m9 := Fm.out.cell 9 (.slice D ld cd) rfl
  have x0 := Fx.out.cell 0 (.slice G ng cg) rfl
  have x1 := Fx.out.cell 1 (.int .i64 most) rfl
  have hBw1 := hB0.trans (hb.mono hB0.size)
  clear hb
  go_wp2_with (go_at_call 28; refine (rwithin7_any _ _ _ _).mono ?_; rintro e w9 ⟨rfl, rfl⟩; rw [hw])
  clear HC Fm m0 m1 m2 m3 m4 m5 m6 m7 m8 m9 x0 x1
  have s1 := hBw1.size
  go_loopw [5, 6, 7, 8] (fun i _ _ _ wr => ∃ j : Nat, j ≤ ng ∧ i = .int .i64 j ∧ Hid ((gs.drop j).any strongB = q) ∧ Below w1.heap.size w1 wr ∧ Hid (RowL (w.heap.size + 1) [.slice G ng cg, .int .i64 most] wr)) (fun i _ _ _ _ => ng - (intOf i).toNat)
  case atStart => exact ⟨0, Nat.zero_le _, rfl, HG0, Below.refl _ _, Fx⟩
  case round =>
    obtain ⟨j, hj, rfl, hq, hB, Fx⟩ := hrel
    have sz := hB.size
    have x0 := Fx.out.cell 0 _ rfl
    have xlt := Fx.out.lt
    by_cases hlt : j < ng
    · obtain ⟨z1, hcl⟩ := IG.out.below (hBw1.trans (hB.mono hBw1.size))
      obtain ⟨bg, og, rfl, hbg, hcl⟩ := hcl (by omega)
      obtain ⟨v, hv⟩ : ∃ x, gs[j]? = some x := ⟨_, List.getElem?_eq_getElem (by omega)⟩
      have HD := Lib.hid (strong_drop hv)
      obtain ⟨h0, h1, h2, h3⟩ := v
      have e2 : wr.cell? ⟨bg, og + j * 4, none⟩ = some (.int .i64 h0) := by have h := hcl j _ hv 0 _ rfl; simpa using h
      have e3 : wr.cell? ⟨bg, og + j * 4 + 1, none⟩ = some (.int .i64 h1) := by have h := hcl j _ hv 1 _ rfl; simpa using h
      have e4 : wr.cell? ⟨bg, og + j * 4 + 2, none⟩ = some (.int .i64 h2) := by have h := hcl j _ hv 2 _ rfl; simpa using h
      have e5 : wr.cell? ⟨bg, og + j * 4 + 3, none⟩ = some (.int .i64 h3) := by have h := hcl j _ hv 3 _ rfl; simpa using h
      have jn : ((j : Int)).toNat = j := by omega
      have j0 : (0 : Int) ≤ j := by omega
      have HQ4 : Hid (strongB ⟨h0, h1, h2, h3⟩ = [h0, h1, h2, h3].any (fun n => !wthn n (-1000000) 1000000)) := Lib.hid rfl
      generalize strongB ⟨h0, h1, h2, h3⟩ = q4 at *
      clear hcl hv z1
      go_upto_region 7 with (fail)
      have Fg : Hid (RowL (wr.heap.size) [.int .i64 h0, .int .i64 h1, .int .i64 h2, .int .i64 h3] (wr.alloc (.cells #[.int .i64 h0, .int .i64 h1, .int .i64 h2, .int .i64 h3] 69))) := Lib.hid (by have h := RowL.new wr #[.int .i64 h0, .int .i64 h1, .int .i64 h2, .int .i64 h3] 69; (try simp only [World.size_alloc] at h); exact h)
      have hb2 : Below wr.heap.size wr (wr.alloc (.cells #[.int .i64 h0, .int .i64 h1, .int .i64 h2, .int .i64 h3] 69)) := by (repeat first | with_reducible exact Below.refl _ _ | with_reducible assumption | (with_reducible refine Below.setCell ?_ ?_ _; rotate_left; exact (by first | omega | (simp; done) | (simp; omega))) | (with_reducible refine Below.alloc ?_ ?_ _; rotate_left; exact (by first | omega | (simp; done) | (simp; omega))) | with_reducible refine Below.drew ?_ | with_reducible refine Below_drewN ?_ _)
      have sW2 : wr.heap.size < (wr.alloc (.cells #[.int .i64 h0, .int .i64 h1, .int .i64 h2, .int .i64 h3] 69)).heap.size := by simp only [World.size_alloc]; omega
      obtain ⟨W2, hW2⟩ : ∃ W, (wr.alloc (.cells #[.int .i64 h0, .int .i64 h1, .int .i64 h2, .int .i64 h3] 69)) = W := ⟨_, rfl⟩
      rw [hW2] at Fg hb2 sW2 ⊢
      clear hW2
      have g0 := Fg.out.cell 0 (.int .i64 h0) rfl
      have g1 := Fg.out.cell 1 (.int .i64 h1) rfl
      have g2 := Fg.out.cell 2 (.int .i64 h2) rfl
      have g3 := Fg.out.cell 3 (.int .i64 h3) rfl
      have FX2 := Lib.hid (Fx.out.below hb2)
      clear Fx x0 e2 e3 e4 e5
      go_upto_region 8 with (fail)
      have Fl : Hid (RowL (W2.heap.size) [.int .i64 h0, .int .i64 h1, .int .i64 h2, .int .i64 h3] (W2.alloc (.cells #[.int .i64 h0, .int .i64 h1, .int .i64 h2, .int .i64 h3] 3))) := Lib.hid (by have h := RowL.new W2 #[.int .i64 h0, .int .i64 h1, .int .i64 h2, .int .i64 h3] 3; (try simp only [World.size_alloc] at h); exact h)
      have hb3 : Below W2.heap.size W2 (W2.alloc (.cells #[.int .i64 h0, .int .i64 h1, .int .i64 h2, .int .i64 h3] 3)) := by (repeat first | with_reducible exact Below.refl _ _ | with_reducible assumption | (with_reducible refine Below.setCell ?_ ?_ _; rotate_left; exact (by first | omega | (simp; done) | (simp; omega))) | (with_reducible refine Below.alloc ?_ ?_ _; rotate_left; exact (by first | omega | (simp; done) | (simp; omega))) | with_reducible refine Below.drew ?_ | with_reducible refine Below_drewN ?_ _)
      have sW3 : W2.heap.size < (W2.alloc (.cells #[.int .i64 h0, .int .i64 h1, .int .i64 h2, .int .i64 h3] 3)).heap.size := by simp only [World.size_alloc]; omega
      obtain ⟨W3, hW3⟩ : ∃ W, (W2.alloc (.cells #[.int .i64 h0, .int .i64 h1, .int .i64 h2, .int .i64 h3] 3)) = W := ⟨_, rfl⟩
      rw [hW3] at Fl hb3 sW3 ⊢
      clear hW3
      have FX3 := Lib.hid (FX2.out.below hb3)
      clear FX2 g0 g1 g2 g3 Fg
      have hb23 := hB.trans ((hb2.trans (hb3.mono hb2.size)).mono sz)
      have IL : Hid (IsT 1 intCells W3 (some ⟨W2.heap.size, 0, none⟩) 4 [h0, h1, h2, h3]) := Lib.hid (Fl.out.isI rfl)
      clear Fl
      have szw3 := hb23.size
      go_wp2_with fail
      go_loopw [8] (fun k wx => ∃ t : Nat, t ≤ 4 ∧ k = .int .i64 t ∧ Hid (([h0, h1, h2, h3].drop t).any (fun n => !wthn n (-1000000) 1000000) = q4) ∧ Below W3.heap.size W3 wx) (fun k _ => 4 - (intOf k).toNat)
      case atStart => exact ⟨0, by omega, rfl, Lib.hid HQ4.out.symm, Below.refl _ _⟩
      case round =>
        obtain ⟨t, ht, rfl, hQ, hBx⟩ := hrel
        have szx := hBx.size
        by_cases htj : t < 4
        · obtain ⟨z2, hcl2⟩ := IL.out.below hBx
          obtain ⟨b', o', hbo, hb', hcl2⟩ := hcl2 (by omega)
          have hbo := Option.some.inj hbo
          simp only [Addr.mk.injEq] at hbo
          obtain ⟨rfl, rfl, -⟩ := hbo
          obtain ⟨y, hy⟩ : ∃ x, [h0, h1, h2, h3][t]? = some x := ⟨_, List.getElem?_eq_getElem (by simp; omega)⟩
          have HF := Lib.hid (hQ.out.symm.trans (four_drop hy))
          have y0 : wr.cell? ⟨W2.heap.size, 0 + t, none⟩ = some (.int .i64 y) := by have h := hcl2 t y hy 0 _ rfl; simpa using h
          rw [Nat.zero_add] at y0
          have tn : ((t : Int)).toNat = t := by omega
          have t0 : (0 : Int) ≤ t := by omega
          clear hcl2 hy z2 hQ
          cases hp : wthn y (-1000000) 1000000
          · have HN : Hid (false = K) := Lib.hid (by rw [← HE.out, ← hq.out, HD.out, HF.out, hp]; rfl)
            clear HF HD
            go_wp2_with (go_at_call 28; refine (rwithin7_any _ _ _ _).mono ?_; rintro e w9 ⟨rfl, rfl⟩; rw [hp])
            go_ret
            exact ⟨by rw [← HN.out]; rfl, hBw1.trans ((hb23.trans (hBx.mono szw3)).mono hBw1.size)⟩
          · have HN : Hid (([h0, h1, h2, h3].drop (t + 1)).any (fun n => !wthn n (-1000000) 1000000) = q4) := Lib.hid (by rw [HF.out, hp]; rfl)
            clear HF HD
            go_wp2_with (go_at_call 28; refine (rwithin7_any _ _ _ _).mono ?_; rintro e w9 ⟨rfl, rfl⟩; rw [hp])
            go_roundw
            case rel => exact ⟨t + 1, by omega, by go_num, HN, hBx⟩
            case measure => simp [intOf]; omega
        · have HN : Hid ((gs.drop (j + 1)).any strongB = q) := Lib.hid (by
            have h4 := hQ.out
            rw [List.drop_of_length_le (by simp; omega)] at h4
            rw [← hq.out, HD.out, ← h4]; rfl)
          have FX4 := Lib.hid (FX3.out.below hBx)
          have hb4 := hb23.trans (hBx.mono szw3)
          clear hQ HD hq
          go_wp2_with fail
          go_roundw
          case rel => exact ⟨j + 1, by omega, by go_num, HN, hb4, FX4⟩
          case measure => simp [intOf]; omega
    · have HN : Hid (true = K) := Lib.hid (by rw [← HE.out, ← hq.out, List.drop_of_length_le (by omega)]; rfl)
      go_wp2_with fail
      go_ret
      exact ⟨by rw [← HN.out]; rfl, hBw1.trans (hB.mono hBw1.size)⟩

end Go.Proofs.Ytnplgnennmhkeaa
end
