/- Proved: for every two spans and every number the law SpanJoins returns true (Hull and Meet are those of the document, and a number lies in the meet exactly if it lies in both), and the arguments read afterwards as before; no conditions. -/
import Derived.Test.YtmhlphlccjbccaaSpanM
import Derived.Test.YtmhlphlccjbccaaSpanD
import Derived.Test.YtmhlphlccjbccaaSpanF
namespace Go.Proofs.Ytmhlphlccjbccaa.lawSpanJoins
set_option linter.unusedVariables false
set_option linter.unusedSimpArgs false
open Go.ChangeShapes Go.WideShapes Go.ChangeAt Go.RowKit Go.Joins

theorem meet_rel (a b c d n : Int) : (cont a b n && cont c d n) = ((meetL a b c d).2.2 == 0 && cont (meetL a b c d).1 (meetL a b c d).2.1 n) := by
  unfold meetL
  by_cases hv : (vld a b && vld c d) = true
  · rw [if_pos hv]
    obtain ⟨v1, v2⟩ : vld a b = true ∧ vld c d = true := by simpa using hv
    have o1 := vld_iff.1 v1
    have o2 := vld_iff.1 v2
    by_cases hm : max a c ≤ min b d
    · rw [if_pos hm]
      have v3 : vld (max a c) (min b d) = true := vld_iff.2 (by omega)
      rw [Bool.eq_iff_iff]
      simp only [cont, v1, v2, v3, Bool.true_and, Bool.and_eq_true, decide_eq_true_eq, beq_self_eq_true]
      omega
    · rw [if_neg hm, Bool.eq_iff_iff]
      simp only [cont, v1, v2, Bool.true_and, Bool.and_eq_true, decide_eq_true_eq]
      constructor
      · intro h; omega
      · intro h; exact absurd h.1 (by decide)
  · rw [if_neg hv]
    have : (cont a b n && cont c d n) = false := by
      cases h : (cont a b n && cont c d n) with
      | false => rfl
      | true =>
        simp only [Bool.and_eq_true] at h
        exact absurd (by rw [(cont_iff.1 h.1).1, (cont_iff.1 h.2).1]; rfl) hv
    rw [this]
    simp

theorem contains_is {lo hi n : Int} {v : Bool} (h : cont lo hi n = v) (w : World) : Calls Try.prog 13 #[Sp lo hi, .int .i64 n] w (Ret (.bool v) w) := by rw [← h]; exact contains_any lo hi n w

set_option maxRecDepth 100000 in
set_option maxHeartbeats 4000000 in
theorem walk (a b c d n : Int) (wa : (Lit.int .i64 a).wf = true) (wb : (Lit.int .i64 b).wf = true) (wc : (Lit.int .i64 c).wf = true) (wd : (Lit.int .i64 d).wf = true) (wn : (Lit.int .i64 n).wf = true) (w : World) :
    Calls Try.prog 5 #[Sp a b, Sp c d, .int .i64 n] w (Ret (.bool true) w) := by
  clear wa wb wc wd wn
  have hrel := meet_rel a b c d n
  have HM := Lib.hid (fun W => meet_any a b c d W)
  have HN := Lib.hid (fun W => rmeet_any a b c d W)
  generalize meetL a b c d = t at *
  obtain ⟨p, q, r⟩ := t
  dsimp only at hrel HM HN
  have key : ∀ k1 k2 k3 k4 : Bool, cont a b n = k1 → cont c d n = k2 → (r == 0) = k3 → cont p q n = k4 → ((k1 && k2) == (k3 && k4)) = true → Calls Try.prog 5 #[Sp a b, Sp c d, .int .i64 n] w (Ret (.bool true) w) := by
    clear hrel
    intro k1 k2 k3 k4 e1 e2 e3 e4 hk
    have E1 := Lib.hid e1
    have E2 := Lib.hid e2
    have E4 := Lib.hid e4
    clear e1 e2 e4
    go_enter Try.func5, Try.ntmps5
    go_wp2_with fail
    refine (hull2_any a b c d _).mono ?_
    rintro e w1 ⟨rfl, hb⟩
    have hB : Below w.heap.size w w1 := Below.trans (by (repeat first | with_reducible exact Below.refl _ _ | with_reducible assumption | (with_reducible refine Below.setCell ?_ ?_ _; rotate_left; exact (by first | omega | (simp; done) | (simp; omega))) | (with_reducible refine Below.alloc ?_ ?_ _; rotate_left; exact (by first | omega | (simp; done) | (simp; omega))) | with_reducible refine Below.drew ?_ | with_reducible refine Below_drewN ?_ _)) (hb.mono (by first | omega | ((try simp only [World.size_alloc, World.size_setCell, size_drew, size_drewN]); omega) | (simp; done) | (simp; omega)))
    obtain ⟨hc, hf⟩ := bcell hb
    have hs := hb.size
    clear hb
    (try simp only [World.size_alloc, World.size_setCell] at hc hf hs)
    have : w.heap.size < w1.heap.size := by omega
    have : w.heap.size + 1 < w1.heap.size := by omega
    go_wp2_with fail
    refine (rhull_any a b c d _).mono ?_
    rintro e w2 ⟨rfl, hb⟩
    have hB : Below w.heap.size w w2 := Below.trans (by (repeat first | with_reducible exact Below.refl _ _ | with_reducible assumption | (with_reducible refine Below.setCell ?_ ?_ _; rotate_left; exact (by first | omega | (simp; done) | (simp; omega))) | (with_reducible refine Below.alloc ?_ ?_ _; rotate_left; exact (by first | omega | (simp; done) | (simp; omega))) | with_reducible refine Below.drew ?_ | with_reducible refine Below_drewN ?_ _)) (hb.mono (by first | omega | ((try simp only [World.size_alloc, World.size_setCell, size_drew, size_drewN]); omega) | (simp; done) | (simp; omega)))
    obtain ⟨hc, hf⟩ := bcell hb
    have hs := hb.size
    clear hb
    (try simp only [World.size_alloc, World.size_setCell] at hc hf hs)
    have : w.heap.size < w2.heap.size := by omega
    have : w.heap.size + 1 < w2.heap.size := by omega
    have : w1.heap.size < w2.heap.size := by omega
    have : (w2.cell? ⟨w1.heap.size, 0, none⟩).isSome = true := by (rw [hc _ _ (by omega)]; (try simp only [isSome_setCell]); first | assumption | go_simp)
    have : (w2.cell? ⟨w1.heap.size, 1, none⟩).isSome = true := by (rw [hc _ _ (by omega)]; (try simp only [isSome_setCell]); first | assumption | go_simp)
    go_wp2_with fail
    refine (same_refl _ _ _ _).mono ?_
    rintro e w3 ⟨rfl, hb⟩
    have hB : Below w.heap.size w w3 := Below.trans (by (repeat first | with_reducible exact Below.refl _ _ | with_reducible assumption | (with_reducible refine Below.setCell ?_ ?_ _; rotate_left; exact (by first | omega | (simp; done) | (simp; omega))) | (with_reducible refine Below.alloc ?_ ?_ _; rotate_left; exact (by first | omega | (simp; done) | (simp; omega))) | with_reducible refine Below.drew ?_ | with_reducible refine Below_drewN ?_ _)) (hb.mono (by first | omega | ((try simp only [World.size_alloc, World.size_setCell, size_drew, size_drewN]); omega) | (simp; done) | (simp; omega)))
    obtain ⟨hc, hf⟩ := bcell hb
    have hs := hb.size
    clear hb
    (try simp only [World.size_alloc, World.size_setCell] at hc hf hs)
    have : w.heap.size < w3.heap.size := by omega
    have : w.heap.size + 1 < w3.heap.size := by omega
    have : w1.heap.size < w3.heap.size := by omega
    have : w2.heap.size < w3.heap.size := by omega
    have : (w3.cell? ⟨w1.heap.size, 0, none⟩).isSome = true := by (rw [hc _ _ (by omega)]; (try simp only [isSome_setCell]); first | assumption | go_simp)
    have : (w3.cell? ⟨w1.heap.size, 1, none⟩).isSome = true := by (rw [hc _ _ (by omega)]; (try simp only [isSome_setCell]); first | assumption | go_simp)
    have : (w3.cell? ⟨w2.heap.size, 0, none⟩).isSome = true := by (rw [hc _ _ (by omega)]; (try simp only [isSome_setCell]); first | assumption | go_simp)
    have : (w3.cell? ⟨w2.heap.size, 1, none⟩).isSome = true := by (rw [hc _ _ (by omega)]; (try simp only [isSome_setCell]); first | assumption | go_simp)
    go_wp2_with fail
    refine (HM.out _).mono ?_
    rintro e w4 ⟨rfl, hb⟩
    have hB : Below w.heap.size w w4 := Below.trans (by (repeat first | with_reducible exact Below.refl _ _ | with_reducible assumption | (with_reducible refine Below.setCell ?_ ?_ _; rotate_left; exact (by first | omega | (simp; done) | (simp; omega))) | (with_reducible refine Below.alloc ?_ ?_ _; rotate_left; exact (by first | omega | (simp; done) | (simp; omega))) | with_reducible refine Below.drew ?_ | with_reducible refine Below_drewN ?_ _)) (hb.mono (by first | omega | ((try simp only [World.size_alloc, World.size_setCell, size_drew, size_drewN]); omega) | (simp; done) | (simp; omega)))
    obtain ⟨hc, hf⟩ := bcell hb
    have hs := hb.size
    clear hb
    (try simp only [World.size_alloc, World.size_setCell] at hc hf hs)
    have : w.heap.size < w4.heap.size := by omega
    have : w.heap.size + 1 < w4.heap.size := by omega
    have : w1.heap.size < w4.heap.size := by omega
    have : w2.heap.size < w4.heap.size := by omega
    have : (w4.cell? ⟨w1.heap.size, 0, none⟩).isSome = true := by (rw [hc _ _ (by omega)]; (try simp only [isSome_setCell]); first | assumption | go_simp)
    have : (w4.cell? ⟨w1.heap.size, 1, none⟩).isSome = true := by (rw [hc _ _ (by omega)]; (try simp only [isSome_setCell]); first | assumption | go_simp)
    have : (w4.cell? ⟨w2.heap.size, 0, none⟩).isSome = true := by (rw [hc _ _ (by omega)]; (try simp only [isSome_setCell]); first | assumption | go_simp)
    have : (w4.cell? ⟨w2.heap.size, 1, none⟩).isSome = true := by (rw [hc _ _ (by omega)]; (try simp only [isSome_setCell]); first | assumption | go_simp)
    go_wp2_with fail
    refine (HN.out _).mono ?_
    rintro e w5 ⟨rfl, hb⟩
    have hB : Below w.heap.size w w5 := Below.trans (by (repeat first | with_reducible exact Below.refl _ _ | with_reducible assumption | (with_reducible refine Below.setCell ?_ ?_ _; rotate_left; exact (by first | omega | (simp; done) | (simp; omega))) | (with_reducible refine Below.alloc ?_ ?_ _; rotate_left; exact (by first | omega | (simp; done) | (simp; omega))) | with_reducible refine Below.drew ?_ | with_reducible refine Below_drewN ?_ _)) (hb.mono (by first | omega | ((try simp only [World.size_alloc, World.size_setCell, size_drew, size_drewN]); omega) | (simp; done) | (simp; omega)))
    obtain ⟨hc, hf⟩ := bcell hb
    have hs := hb.size
    clear hb
    (try simp only [World.size_alloc, World.size_setCell] at hc hf hs)
    have : w.heap.size < w5.heap.size := by omega
    have : w.heap.size + 1 < w5.heap.size := by omega
    have : w1.heap.size < w5.heap.size := by omega
    have : w2.heap.size < w5.heap.size := by omega
    have : (w5.cell? ⟨w1.heap.size, 0, none⟩).isSome = true := by (rw [hc _ _ (by omega)]; (try simp only [isSome_setCell]); first | assumption | go_simp)
    have : (w5.cell? ⟨w1.heap.size, 1, none⟩).isSome = true := by (rw [hc _ _ (by omega)]; (try simp only [isSome_setCell]); first | assumption | go_simp)
    have : (w5.cell? ⟨w2.heap.size, 0, none⟩).isSome = true := by (rw [hc _ _ (by omega)]; (try simp only [isSome_setCell]); first | assumption | go_simp)
    have : (w5.cell? ⟨w2.heap.size, 1, none⟩).isSome = true := by (rw [hc _ _ (by omega)]; (try simp only [isSome_setCell]); first | assumption | go_simp)
    go_wp2_with fail
    refine (same_refl _ _ _ _).mono ?_
    rintro e w6 ⟨rfl, hb⟩
    have hB : Below w.heap.size w w6 := Below.trans (by (repeat first | with_reducible exact Below.refl _ _ | with_reducible assumption | (with_reducible refine Below.setCell ?_ ?_ _; rotate_left; exact (by first | omega | (simp; done) | (simp; omega))) | (with_reducible refine Below.alloc ?_ ?_ _; rotate_left; exact (by first | omega | (simp; done) | (simp; omega))) | with_reducible refine Below.drew ?_ | with_reducible refine Below_drewN ?_ _)) (hb.mono (by first | omega | ((try simp only [World.size_alloc, World.size_setCell, size_drew, size_drewN]); omega) | (simp; done) | (simp; omega)))
    obtain ⟨hc, hf⟩ := bcell hb
    have hs := hb.size
    clear hb
    (try simp only [World.size_alloc, World.size_setCell] at hc hf hs)
    have : w.heap.size < w6.heap.size := by omega
    have : w.heap.size + 1 < w6.heap.size := by omega
    have : w1.heap.size < w6.heap.size := by omega
    have : w2.heap.size < w6.heap.size := by omega
    have : (w6.cell? ⟨w1.heap.size, 0, none⟩).isSome = true := by (rw [hc _ _ (by omega)]; (try simp only [isSome_setCell]); first | assumption | go_simp)
    have : (w6.cell? ⟨w1.heap.size, 1, none⟩).isSome = true := by (rw [hc _ _ (by omega)]; (try simp only [isSome_setCell]); first | assumption | go_simp)
    have : (w6.cell? ⟨w2.heap.size, 0, none⟩).isSome = true := by (rw [hc _ _ (by omega)]; (try simp only [isSome_setCell]); first | assumption | go_simp)
    have : (w6.cell? ⟨w2.heap.size, 1, none⟩).isSome = true := by (rw [hc _ _ (by omega)]; (try simp only [isSome_setCell]); first | assumption | go_simp)
    cases k1 <;> cases k2 <;> cases k3 <;> cases k4 <;> first | exact absurd hk (by decide) | skip
    all_goals clear hk
    all_goals go_wp2_with (first | (go_at_call 13; (first | (with_reducible show Calls _ _ #[.agg #[.int .i64 a, .int .i64 b], _] _ _; refine (contains_is E1.out _).mono ?_) | (with_reducible show Calls _ _ #[.agg #[.int .i64 c, .int .i64 d], _] _ _; refine (contains_is E2.out _).mono ?_) | (with_reducible show Calls _ _ #[.agg #[.int .i64 p, .int .i64 q], _] _ _; refine (contains_is E4.out _).mono ?_)); rintro e wz ⟨rfl, hb⟩; have hB : Below w.heap.size w wz := Below.trans (by (repeat first | with_reducible exact Below.refl _ _ | with_reducible assumption | (with_reducible refine Below.setCell ?_ ?_ _; rotate_left; exact (by first | omega | (simp; done) | (simp; omega))) | (with_reducible refine Below.alloc ?_ ?_ _; rotate_left; exact (by first | omega | (simp; done) | (simp; omega))) | with_reducible refine Below.drew ?_ | with_reducible refine Below_drewN ?_ _)) (hb.mono (by first | omega | ((try simp only [World.size_alloc, World.size_setCell, size_drew, size_drewN]); omega) | (simp; done) | (simp; omega))); obtain ⟨hc, hf⟩ := bcell hb; have hs := hb.size; clear hb; (try simp only [World.size_alloc, World.size_setCell] at hc hf hs); have : w.heap.size < wz.heap.size := (by omega); have : w.heap.size + 1 < wz.heap.size := (by omega); have : w1.heap.size < wz.heap.size := (by omega); have : w2.heap.size < wz.heap.size := (by omega)) | (go_at_call 25; refine (awake_any _).mono ?_; rintro e wz ⟨rfl, hb⟩; have hB : Below w.heap.size w wz := Below.trans (by (repeat first | with_reducible exact Below.refl _ _ | with_reducible assumption | (with_reducible refine Below.setCell ?_ ?_ _; rotate_left; exact (by first | omega | (simp; done) | (simp; omega))) | (with_reducible refine Below.alloc ?_ ?_ _; rotate_left; exact (by first | omega | (simp; done) | (simp; omega))) | with_reducible refine Below.drew ?_ | with_reducible refine Below_drewN ?_ _)) (hb.mono (by first | omega | ((try simp only [World.size_alloc, World.size_setCell, size_drew, size_drewN]); omega) | (simp; done) | (simp; omega))); obtain ⟨hc, hf⟩ := bcell hb; have hs := hb.size; clear hb; (try simp only [World.size_alloc, World.size_setCell] at hc hf hs); have : w.heap.size < wz.heap.size := (by omega); have : w.heap.size + 1 < wz.heap.size := (by omega); have : w1.heap.size < wz.heap.size := (by omega); have : w2.heap.size < wz.heap.size := (by omega)))
    all_goals go_ret
    all_goals exact ⟨rfl, by (repeat first | with_reducible exact Below.refl _ _ | with_reducible assumption | (with_reducible refine Below.setCell ?_ ?_ _; rotate_left; exact (by first | omega | (simp; done) | (simp; omega))) | (with_reducible refine Below.alloc ?_ ?_ _; rotate_left; exact (by first | omega | (simp; done) | (simp; omega))) | with_reducible refine Below.drew ?_ | with_reducible refine Below_drewN ?_ _)⟩
  exact key _ _ _ _ rfl rfl rfl rfl (by rw [hrel]; simp)

set_option maxRecDepth 100000 in
theorem lifted (os : Os) (started : os.Started) (H : Type) (enc : TypeId × Value → H) :
    ReturnsInHanded {} Try.checked os 5 .any (Rows.spanJoinsSpec.pre6 enc Try.prog Try.f5 Rows.spanJoinsRow.domain false) (Rows.spanJoinsSpec.post enc Try.prog Try.f5 false true false false) := by
  refine returnsInHanded_of_change (C := Try.checked) own started (by kernel_rfl) Try.func5
    (ChangeSpec.witness6 (enc := enc) (C := Try.checked) false ⟨#[], #[.agg #[.int .i64 0, .int .i64 0], .agg #[.int .i64 0, .int .i64 0], .int .i64 0], []⟩ 8 (by kernel_rfl) (by kernel_rfl) (by kernel_rfl) (by kernel_rfl)) ?_
  intro W base args ds gs before hval0 hW _ _
  have hval : ∀ (j : Nat) t v, Try.f5.params[j]? = some t → args[j]? = some v → Value.okWide Try.prog W .any base t v := hval0
  have hW' := hW
  obtain ⟨p, q, hA0, hV, rfl, _, _⟩ := hW
  have hA : DataW.TrodAll enc Try.prog W 0 (fun _ => true) true Try.f5.params.toList args.toList ds p := hA0
  rw [Try.params5] at hA hval
  obtain ⟨v0, v1, v2, d0, d1, d2, p0, p1, p2, rfl, rfl, rfl, h0, h1, h2⟩ := trodAll_three hA
  obtain ⟨rfl, rfl⟩ := trodVars_none hV
  obtain ⟨a0, b0, rfl, rfl, rfl, wa0, wb0⟩ := open_span (hval 0 23 v0 rfl rfl) h0
  obtain ⟨a1, b1, rfl, rfl, rfl, wa1, wb1⟩ := open_span (hval 1 23 v1 rfl rfl) h1
  obtain ⟨a2, rfl, rfl, rfl, wa2⟩ := open_int Try.underlying3 (hval 2 3 v2 rfl rfl) h2
  clear hA0 hval0
  simp only [List.append_nil] at hW'
  refine (walk a0 b0 a1 b1 a2 wa0 wb0 wa1 wb1 wa2 W).mono fun e W' ⟨he, hb⟩ => ?_
  subst he
  exact ⟨_, rfl, _, _, _, [], [], [], hW', trodAll_mk1 (shut_bool Try.underlying4 true), trodAll_mk3 (shut_span wa0 wb0) (shut_span wa1 wb1) (shut_int Try.underlying3 wa2), rfl, hb.frame _, fun h => by cases h⟩

theorem holds : Rows.SpanJoinsSaid :=
  OpenClaim.holds_of_wide 5 Try.f5 rfl rfl rfl rfl rfl rfl rfl ⟨rfl, rfl, rfl, rfl, rfl⟩ rfl rfl rfl rfl rfl (by kernel_rfl) Try.func5 (by kernel_rfl)
    (of_decide_eq_true (by kernel_rfl)) (by unfold Func.isWrapper; rw [if_neg (of_decide_eq_false (by kernel_rfl))]; exact ⟨rfl, rfl⟩)
    (fun os started H enc _ => lifted os started H enc)

#print axioms holds
end Go.Proofs.Ytmhlphlccjbccaa.lawSpanJoins
