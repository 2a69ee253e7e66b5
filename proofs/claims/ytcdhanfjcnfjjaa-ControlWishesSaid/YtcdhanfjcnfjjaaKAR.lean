import Derived.Test.YtcdhanfjcnfjjaaKAN
import Derived.Test.YtcdhanfjcnfjjaaKAQ
section
/- The specification of layers 6 and 7: Spans, ValidShape, Errors, over this seat's translation (written by mk_ctr.py). -/
namespace Go.Proofs.Ytcdhanfjcnfjjaa
set_option linter.unusedVariables false
set_option linter.unusedSimpArgs false
open Go.RowKit Go.Shelf

/-- A shape's spans by the numbers of the kinds. -/
def spanRow (s : ShapeD) : List SpanD := [⟨0, 0⟩, ⟨s.a0, s.b0⟩, ⟨s.a1, s.b1⟩, ⟨s.a2, s.b2⟩, ⟨s.a3, s.b3⟩, ⟨s.a4, s.b4⟩, ⟨s.a5, s.b5⟩, ⟨s.a6, s.b6⟩, ⟨s.a7, s.b7⟩]
theorem spanRow_all (s : ShapeD) : ((spanRow s).all fun x => vld x.lo x.hi) = okS s := by
  simp [spanRow, okS, show vld 0 0 = true from by decide]
theorem spans_isT {b : Nat} {W : World} {s : ShapeD} (h : RowL b [.int .i64 0, .int .i64 0, .int .i64 s.a0, .int .i64 s.b0, .int .i64 s.a1, .int .i64 s.b1, .int .i64 s.a2, .int .i64 s.b2, .int .i64 s.a3, .int .i64 s.b3, .int .i64 s.a4, .int .i64 s.b4, .int .i64 s.a5, .int .i64 s.b5, .int .i64 s.a6, .int .i64 s.b6, .int .i64 s.a7, .int .i64 s.b7] W) : IsT 2 SpanD.cells W (some ⟨b, 0, none⟩) 9 (spanRow s) := by
  refine ⟨rfl, fun _ => ⟨b, 0, rfl, h.lt, fun j x hx i v hv => h.cell (0 + j * 2 + i) v ?_⟩⟩
  rcases j with _ | _ | _ | _ | _ | _ | _ | _ | _ | j
  all_goals first | (have h9 := (List.getElem?_eq_some_iff.1 hx).1; simp [spanRow] at h9; omega) | skip
  all_goals obtain rfl := Option.some.inj hx
  all_goals rcases i with _ | _ | i
  all_goals first | exact hv | (have h9 := (List.getElem?_eq_some_iff.1 hv).1; simp [SpanD.cells] at h9; omega)

set_option maxRecDepth 100000 in
set_option maxHeartbeats 8000000 in
theorem rspans_any (s : ShapeD) (w : World) :
    Calls Try.prog 37 #[s.v] w (fun e w' => ∃ b : Nat, e = .returned (.slice (some ⟨b, 0, none⟩) 9 9) ∧ IsT 2 SpanD.cells w' (some ⟨b, 0, none⟩) 9 (spanRow s) ∧ Below w.heap.size w w') := by
  obtain ⟨S, hS⟩ : ∃ S, spanRow s = S := ⟨_, rfl⟩
  have HI : Hid (∀ (b : Nat) W, RowL b [.int .i64 0, .int .i64 0, .int .i64 s.a0, .int .i64 s.b0, .int .i64 s.a1, .int .i64 s.b1, .int .i64 s.a2, .int .i64 s.b2, .int .i64 s.a3, .int .i64 s.b3, .int .i64 s.a4, .int .i64 s.b4, .int .i64 s.a5, .int .i64 s.b5, .int .i64 s.a6, .int .i64 s.b6, .int .i64 s.a7, .int .i64 s.b7] W → IsT 2 SpanD.cells W (some ⟨b, 0, none⟩) 9 S) := Lib.hid (fun b W h => by rw [← hS]; exact spans_isT h)
  rw [hS]
  clear hS
  obtain ⟨a0, b0, a1, b1, a2, b2, a3, b3, a4, b4, a5, b5, a6, b6, a7, b7⟩ := s
  (try dsimp only at *)
  have HJ := Lib.hid (show ∀ (b : Nat) W, RowL b [.int .i64 0, .int .i64 0, .int .i64 a0, .int .i64 b0, .int .i64 a1, .int .i64 b1, .int .i64 a2, .int .i64 b2, .int .i64 a3, .int .i64 b3, .int .i64 a4, .int .i64 b4, .int .i64 a5, .int .i64 b5, .int .i64 a6, .int .i64 b6, .int .i64 a7, .int .i64 b7] W → IsT 2 SpanD.cells W (some ⟨b, 0, none⟩) 9 S from HI.out)
  clear HI
  show Calls Try.prog 37 #[.agg #[.int .i64 a0, .int .i64 b0, .int .i64 a1, .int .i64 b1, .int .i64 a2, .int .i64 b2, .int .i64 a3, .int .i64 b3, .int .i64 a4, .int .i64 b4, .int .i64 a5, .int .i64 b5, .int .i64 a6, .int .i64 b6, .int .i64 a7, .int .i64 b7]] w _
  go_enter Try.func37, Try.ntmps37
  go_upto_region 1 with (fail)
  have Fs : Hid (RowL (w.heap.size) [.int .i64 a0, .int .i64 b0, .int .i64 a1, .int .i64 b1, .int .i64 a2, .int .i64 b2, .int .i64 a3, .int .i64 b3, .int .i64 a4, .int .i64 b4, .int .i64 a5, .int .i64 b5, .int .i64 a6, .int .i64 b6, .int .i64 a7, .int .i64 b7] (w.alloc (.cells #[.int .i64 a0, .int .i64 b0, .int .i64 a1, .int .i64 b1, .int .i64 a2, .int .i64 b2, .int .i64 a3, .int .i64 b3, .int .i64 a4, .int .i64 b4, .int .i64 a5, .int .i64 b5, .int .i64 a6, .int .i64 b6, .int .i64 a7, .int .i64 b7] 40))) := Lib.hid (by have h := RowL.new w #[.int .i64 a0, .int .i64 b0, .int .i64 a1, .int .i64 b1, .int .i64 a2, .int .i64 b2, .int .i64 a3, .int .i64 b3, .int .i64 a4, .int .i64 b4, .int .i64 a5, .int .i64 b5, .int .i64 a6, .int .i64 b6, .int .i64 a7, .int .i64 b7] 40; (try simp only [World.size_alloc] at h); exact h)
  have hB0 : Below w.heap.size w (w.alloc (.cells #[.int .i64 a0, .int .i64 b0, .int .i64 a1, .int .i64 b1, .int .i64 a2, .int .i64 b2, .int .i64 a3, .int .i64 b3, .int .i64 a4, .int .i64 b4, .int .i64 a5, .int .i64 b5, .int .i64 a6, .int .i64 b6, .int .i64 a7, .int .i64 b7] 40)) := by (with_reducible repeat first | exact Below.refl _ _ | assumption | ((first | refine Below.setCell ?_ ?_ _ | refine Below.alloc ?_ ?_ _); rotate_left; exact (by first | omega | (simp; done) | (simp; omega))) | refine Below.drew ?_ | refine Below_drewN ?_ _)
  have sW0 : w.heap.size < (w.alloc (.cells #[.int .i64 a0, .int .i64 b0, .int .i64 a1, .int .i64 b1, .int .i64 a2, .int .i64 b2, .int .i64 a3, .int .i64 b3, .int .i64 a4, .int .i64 b4, .int .i64 a5, .int .i64 b5, .int .i64 a6, .int .i64 b6, .int .i64 a7, .int .i64 b7] 40)).heap.size := by simp only [World.size_alloc]; omega
  obtain ⟨W0, hW0⟩ : ∃ W, (w.alloc (.cells #[.int .i64 a0, .int .i64 b0, .int .i64 a1, .int .i64 b1, .int .i64 a2, .int .i64 b2, .int .i64 a3, .int .i64 b3, .int .i64 a4, .int .i64 b4, .int .i64 a5, .int .i64 b5, .int .i64 a6, .int .i64 b6, .int .i64 a7, .int .i64 b7] 40)) = W := ⟨_, rfl⟩
  rw [hW0] at Fs hB0 sW0 ⊢
  clear hW0
  have s0 := Fs.out.cell 0 (.int .i64 a0) rfl
  have s1 := Fs.out.cell 1 (.int .i64 b0) rfl
  have s2 := Fs.out.cell 2 (.int .i64 a1) rfl
  have s3 := Fs.out.cell 3 (.int .i64 b1) rfl
  have s4 := Fs.out.cell 4 (.int .i64 a2) rfl
  have s5 := Fs.out.cell 5 (.int .i64 b2) rfl
  have s6 := Fs.out.cell 6 (.int .i64 a3) rfl
  have s7 := Fs.out.cell 7 (.int .i64 b3) rfl
  have s8 := Fs.out.cell 8 (.int .i64 a4) rfl
  have s9 := Fs.out.cell 9 (.int .i64 b4) rfl
  have s10 := Fs.out.cell 10 (.int .i64 a5) rfl
  have s11 := Fs.out.cell 11 (.int .i64 b5) rfl
  have s12 := Fs.out.cell 12 (.int .i64 a6) rfl
  have s13 := Fs.out.cell 13 (.int .i64 b6) rfl
  have s14 := Fs.out.cell 14 (.int .i64 a7) rfl
  have s15 := Fs.out.cell 15 (.int .i64 b7) rfl
  go_wp2_with fail
  go_ret
  refine ⟨W0.heap.size, rfl, ?_, by (with_reducible repeat first | exact Below.refl _ _ | assumption | ((first | refine Below.setCell ?_ ?_ _ | refine Below.alloc ?_ ?_ _); rotate_left; exact (by first | omega | (simp; done) | (simp; omega))) | refine Below.drew ?_ | refine Below_drewN ?_ _)⟩
  refine HJ.out _ _ ?_
  exact RowL.new W0 #[.int .i64 0, .int .i64 0, .int .i64 a0, .int .i64 b0, .int .i64 a1, .int .i64 b1, .int .i64 a2, .int .i64 b2, .int .i64 a3, .int .i64 b3, .int .i64 a4, .int .i64 b4, .int .i64 a5, .int .i64 b5, .int .i64 a6, .int .i64 b6, .int .i64 a7, .int .i64 b7] 38

theorem all_drop {l : List SpanD} {j : Nat} {x : SpanD} (h : l[j]? = some x) : ((l.drop j).all fun x => vld x.lo x.hi) = (vld x.lo x.hi && ((l.drop (j + 1)).all fun x => vld x.lo x.hi)) := by
  obtain ⟨k1, rfl⟩ := List.getElem?_eq_some_iff.1 h
  rw [List.drop_eq_getElem_cons k1, List.all_cons]

set_option maxRecDepth 100000 in
set_option maxHeartbeats 8000000 in
theorem rvalidShape_any (s : ShapeD) (w : World) :
    Calls Try.prog 18 #[s.v] w (Ret (.bool (okS s)) w) := by
  have HS0 := Lib.hid (fun W => rspans_any s W)
  have HG0 : Hid (((spanRow s).drop 0).all (fun x => vld x.lo x.hi) = okS s) := Lib.hid (spanRow_all s)
  have hlen : (spanRow s).length = 9 := rfl
  generalize okS s = K at *
  generalize spanRow s = l at *
  obtain ⟨a0, b0, a1, b1, a2, b2, a3, b3, a4, b4, a5, b5, a6, b6, a7, b7⟩ := s
  (try dsimp only at *)
  have HS := Lib.hid (show ∀ W, Calls Try.prog 37 #[.agg #[.int .i64 a0, .int .i64 b0, .int .i64 a1, .int .i64 b1, .int .i64 a2, .int .i64 b2, .int .i64 a3, .int .i64 b3, .int .i64 a4, .int .i64 b4, .int .i64 a5, .int .i64 b5, .int .i64 a6, .int .i64 b6, .int .i64 a7, .int .i64 b7]] W (fun e w' => ∃ b : Nat, e = .returned (.slice (some ⟨b, 0, none⟩) 9 9) ∧ IsT 2 SpanD.cells w' (some ⟨b, 0, none⟩) 9 l ∧ Below W.heap.size W w') from HS0.out)
  clear HS0
  show Calls Try.prog 18 #[.agg #[.int .i64 a0, .int .i64 b0, .int .i64 a1, .int .i64 b1, .int .i64 a2, .int .i64 b2, .int .i64 a3, .int .i64 b3, .int .i64 a4, .int .i64 b4, .int .i64 a5, .int .i64 b5, .int .i64 a6, .int .i64 b6, .int .i64 a7, .int .i64 b7]] w _
  go_enter Try.func18, Try.ntmps18
  go_upto_region 1 with (fail)
  have Fs : Hid (RowL (w.heap.size) [.int .i64 a0, .int .i64 b0, .int .i64 a1, .int .i64 b1, .int .i64 a2, .int .i64 b2, .int .i64 a3, .int .i64 b3, .int .i64 a4, .int .i64 b4, .int .i64 a5, .int .i64 b5, .int .i64 a6, .int .i64 b6, .int .i64 a7, .int .i64 b7] (w.alloc (.cells #[.int .i64 a0, .int .i64 b0, .int .i64 a1, .int .i64 b1, .int .i64 a2, .int .i64 b2, .int .i64 a3, .int .i64 b3, .int .i64 a4, .int .i64 b4, .int .i64 a5, .int .i64 b5, .int .i64 a6, .int .i64 b6, .int .i64 a7, .int .i64 b7] 40))) := Lib.hid (by have h := RowL.new w #[.int .i64 a0, .int .i64 b0, .int .i64 a1, .int .i64 b1, .int .i64 a2, .int .i64 b2, .int .i64 a3, .int .i64 b3, .int .i64 a4, .int .i64 b4, .int .i64 a5, .int .i64 b5, .int .i64 a6, .int .i64 b6, .int .i64 a7, .int .i64 b7] 40; (try simp only [World.size_alloc] at h); exact h)
  have hB0 : Below w.heap.size w (w.alloc (.cells #[.int .i64 a0, .int .i64 b0, .int .i64 a1, .int .i64 b1, .int .i64 a2, .int .i64 b2, .int .i64 a3, .int .i64 b3, .int .i64 a4, .int .i64 b4, .int .i64 a5, .int .i64 b5, .int .i64 a6, .int .i64 b6, .int .i64 a7, .int .i64 b7] 40)) := by (with_reducible repeat first | exact Below.refl _ _ | assumption | ((first | refine Below.setCell ?_ ?_ _ | refine Below.alloc ?_ ?_ _); rotate_left; exact (by first | omega | (simp; done) | (simp; omega))) | refine Below.drew ?_ | refine Below_drewN ?_ _)
  have sW0 : w.heap.size < (w.alloc (.cells #[.int .i64 a0, .int .i64 b0, .int .i64 a1, .int .i64 b1, .int .i64 a2, .int .i64 b2, .int .i64 a3, .int .i64 b3, .int .i64 a4, .int .i64 b4, .int .i64 a5, .int .i64 b5, .int .i64 a6, .int .i64 b6, .int .i64 a7, .int .i64 b7] 40)).heap.size := by simp only [World.size_alloc]; omega
  obtain ⟨W0, hW0⟩ : ∃ W, (w.alloc (.cells #[.int .i64 a0, .int .i64 b0, .int .i64 a1, .int .i64 b1, .int .i64 a2, .int .i64 b2, .int .i64 a3, .int .i64 b3, .int .i64 a4, .int .i64 b4, .int .i64 a5, .int .i64 b5, .int .i64 a6, .int .i64 b6, .int .i64 a7, .int .i64 b7] 40)) = W := ⟨_, rfl⟩
  rw [hW0] at Fs hB0 sW0 ⊢
  clear hW0
  have s0 := Fs.out.cell 0 (.int .i64 a0) rfl
  have s1 := Fs.out.cell 1 (.int .i64 b0) rfl
  have s2 := Fs.out.cell 2 (.int .i64 a1) rfl
  have s3 := Fs.out.cell 3 (.int .i64 b1) rfl
  have s4 := Fs.out.cell 4 (.int .i64 a2) rfl
  have s5 := Fs.out.cell 5 (.int .i64 b2) rfl
  have s6 := Fs.out.cell 6 (.int .i64 a3) rfl
  have s7 := Fs.out.cell 7 (.int .i64 b3) rfl
  have s8 := Fs.out.cell 8 (.int .i64 a4) rfl
  have s9 := Fs.out.cell 9 (.int .i64 b4) rfl
  have s10 := Fs.out.cell 10 (.int .i64 a5) rfl
  have s11 := Fs.out.cell 11 (.int .i64 b5) rfl
  have s12 := Fs.out.cell 12 (.int .i64 a6) rfl
  have s13 := Fs.out.cell 13 (.int .i64 b6) rfl
  have s14 := Fs.out.cell 14 (.int .i64 a7) rfl
  have s15 := Fs.out.cell 15 (.int .i64 b7) rfl
  go_wp2_with fail
  refine (HS.out _).mono ?_
  rintro e w1 ⟨b, rfl, hI, hb⟩
  have hB1 := hB0.trans (hb.mono hB0.size)
  have HI := Lib.hid hI
  clear hI hb HS Fs s0 s1 s2 s3 s4 s5 s6 s7 s8 s9 s10 s11 s12 s13 s14 s15
  have blt : b < w1.heap.size := by
    obtain ⟨b', o', h1, h2, -⟩ := HI.out.2 (by omega)
    have := Option.some.inj h1
    simp only [Addr.mk.injEq] at this
    omega
  go_wp2_with fail
  go_loopw [4] (fun i wr => ∃ j : Nat, j ≤ 9 ∧ i = .int .i64 j ∧ Hid (((l.drop j).all fun x => vld x.lo x.hi) = K) ∧ Below w1.heap.size w1 wr) (fun i _ => 9 - (intOf i).toNat)
  case atStart => exact ⟨0, by omega, rfl, HG0, Below.refl _ _⟩
  case round =>
    obtain ⟨j, hj, rfl, hG, hB⟩ := hrel
    have sz := hB.size
    have sz1 := hB1.size
    by_cases hlt : j < 9
    · obtain ⟨-, hcl⟩ := HI.out.below hB
      obtain ⟨b', o, hbo, hb0, hcl⟩ := hcl (by omega)
      have hbo := Option.some.inj hbo
      simp only [Addr.mk.injEq] at hbo
      obtain ⟨rfl, rfl, -⟩ := hbo
      obtain ⟨x, hx⟩ : ∃ x, l[j]? = some x := ⟨_, List.getElem?_eq_getElem (by omega)⟩
      have HD := Lib.hid (all_drop hx)
      obtain ⟨lo, hi⟩ := x
      have x0 : wr.cell? ⟨b, 0 + j * 2, none⟩ = some (.int .i64 lo) := by have h := hcl j _ hx 0 _ rfl; simpa using h
      have x1 : wr.cell? ⟨b, 0 + j * 2 + 1, none⟩ = some (.int .i64 hi) := by have h := hcl j _ hx 1 _ rfl; simpa using h
      rw [Nat.zero_add] at x0 x1
      have HV := Lib.hid (fun W => rvalid_any lo hi W)
      have jn : ((j : Int)).toNat = j := by omega
      have j0 : (0 : Int) ≤ j := by omega
      clear hcl hx HG0
      cases hp : vld lo hi
      · rw [hp] at HV
        have HN : Hid (false = K) := Lib.hid (by rw [← hG.out, HD.out]; dsimp only; rw [hp]; rfl)
        clear HD hp
        go_wp2_with fail
        refine (HV.out _).mono ?_
        rintro e w2 ⟨rfl, hb2⟩
        go_wp2_with fail
        go_ret
        exact ⟨by rw [← HN.out]; rfl, by first | (((with_reducible repeat first | exact Below.refl _ _ | assumption | ((first | refine Below.setCell ?_ ?_ _ | refine Below.alloc ?_ ?_ _); rotate_left; exact (by first | omega | (simp; done) | (simp; omega))) | refine Below.drew ?_ | refine Below_drewN ?_ _)); done) | exact hB1.trans ((hB.trans (hb2.mono hB.size)).mono hB1.size) | exact hB1.trans (hB.mono hB1.size)⟩
      · rw [hp] at HV
        have HN : Hid (((l.drop (j + 1)).all fun x => vld x.lo x.hi) = K) := Lib.hid (by rw [← hG.out, HD.out]; dsimp only; rw [hp]; rfl)
        clear HD hp
        go_wp2_with fail
        refine (HV.out _).mono ?_
        rintro e w2 ⟨rfl, hb2⟩
        have hB2 := hB.trans (hb2.mono hB.size)
        go_wp2_with fail
        go_roundw
        case rel => exact ⟨j + 1, by omega, by go_num, HN, hB2⟩
        case measure => simp [intOf]; omega
    · have HN : Hid (true = K) := Lib.hid (by rw [← hG.out, List.drop_of_length_le (by omega)]; rfl)
      go_wp2_with fail
      go_ret
      exact ⟨by rw [← HN.out]; rfl, by first | (((with_reducible repeat first | exact Below.refl _ _ | assumption | ((first | refine Below.setCell ?_ ?_ _ | refine Below.alloc ?_ ?_ _); rotate_left; exact (by first | omega | (simp; done) | (simp; omega))) | refine Below.drew ?_ | refine Below_drewN ?_ _)); done) | exact hB1.trans ((hB.trans (hb2.mono hB.size)).mono hB1.size) | exact hB1.trans (hB.mono hB1.size)⟩

end Go.Proofs.Ytcdhanfjcnfjjaa
end
