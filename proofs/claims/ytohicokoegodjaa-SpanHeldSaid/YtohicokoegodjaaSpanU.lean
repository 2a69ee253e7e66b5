/- Package span: contracts of the fold over spans and of Max, over this seat's translation. -/
import Derived.Test.YtohicokoegodjaaSpanT
namespace Go.Proofs.Ytohicokoegodjaa
set_option linter.unusedVariables false
set_option linter.unusedSimpArgs false
open Go.RowKit Go.Shelf

/-- A struct of two cells, just made, as the one result. -/
theorem res2p {fn : Func} {p : Tmp} (h : fn.results = #[.cell p 23]) (tmps : Array Value) (W : World) (b : Nat) (x y : Value)
    (hp : tmps.getD p undef = .pointer (some ⟨b, 0, none⟩)) (h0 : W.cell? ⟨b, 0, none⟩ = some x) (h1 : W.cell? ⟨b, 1, none⟩ = some y) :
    (results fn tmps).run Try.prog W = .ok (.agg #[x, y]) W := by
  have hp' : tmps[p]?.getD undef = .pointer (some ⟨b, 0, none⟩) := by simpa using hp
  simp only [results, h]
  simp [Sem.run_bind, Result.andThen, go_sem, hp', h0, h1]

/-- The same, behind its last store. -/
theorem res2ps {fn : Func} {p : Tmp} (h : fn.results = #[.cell p 23]) (tmps : Array Value) (W : World) (b : Nat) (x y : Value)
    (hp : tmps.getD p undef = .pointer (some ⟨b, 0, none⟩)) (h0 : (((W.setCell ⟨b, 0, none⟩ x).setCell ⟨b, 1, none⟩ y).cell? ⟨b, 0, none⟩).isSome = true) (h1 : (((W.setCell ⟨b, 0, none⟩ x).setCell ⟨b, 1, none⟩ y).cell? ⟨b, 1, none⟩).isSome = true) :
    (results fn tmps).run Try.prog ((W.setCell ⟨b, 0, none⟩ x).setCell ⟨b, 1, none⟩ y) = .ok (.agg #[x, y]) ((W.setCell ⟨b, 0, none⟩ x).setCell ⟨b, 1, none⟩ y) := by
  rw [isSome_setCell, isSome_setCell] at h0
  rw [isSome_setCell] at h1
  have n1 : (⟨b, 1, none⟩ : Addr) ≠ ⟨b, 0, none⟩ := by simp
  exact res2p h tmps _ b x y hp ((World.cell?_setCell_other _ _ _ _ n1).trans (World.cell?_setCell_same' _ _ _ h0)) (World.cell?_setCell_same' _ _ _ h1)

set_option maxHeartbeats 1000000 in
theorem max1_any (a b i c d : Int) (w : World) :
    Calls Try.prog 77 #[Sp a b, .int .i64 i, Sp c d] w (Ret (Sp (max a c) (max b d)) w) := by
  rcases Int.lt_trichotomy a c with h1 | h1 | h1 <;> rcases Int.lt_trichotomy b d with h2 | h2 | h2
  all_goals (try subst h1)
  all_goals (try subst h2)
  all_goals first | rw [show max a c = c by omega] | rw [show max a c = a by omega] | rw [show max a a = a by omega]
  all_goals first | rw [show max b d = d by omega] | rw [show max b d = b by omega] | rw [show max b b = b by omega]
  all_goals go_enter Try.func77, Try.ntmps77
  all_goals go_wp2_with fail
  all_goals exact bodyPost_ret (res2p Try.results77 _ _ _ _ _ rfl (by go_simp) (by go_simp)) rfl ⟨rfl, by (repeat first | with_reducible exact Below.refl _ _ | with_reducible assumption | (with_reducible refine Below.setCell ?_ ?_ _; rotate_left; exact (by first | omega | (simp; done) | (simp; omega))) | (with_reducible refine Below.alloc ?_ ?_ _; rotate_left; exact (by first | omega | (simp; done) | (simp; omega))) | with_reducible refine Below.drew ?_ | with_reducible refine Below_drewN ?_ _)⟩

/-- The greatest ends of a list of spans and of a first one. -/
def maxT (l : List (Int × Int)) (s : Int × Int) : Int × Int := l.foldl (fun s x => (max s.1 x.1, max s.2 x.2)) s
theorem maxT_snoc (l : List (Int × Int)) (s p : Int × Int) : maxT (l ++ [p]) s = (max (maxT l s).1 p.1, max (maxT l s).2 p.2) := by simp [maxT]

set_option maxHeartbeats 2000000 in
theorem foldM_any (ab ao len cap : Nat) (a b : Int) (zs : List (Int × Int)) (w : World) (hlen : zs.length = len) (hl : len ≤ 1000000000000000) (hab : ab < w.heap.size) (hz : SpCells w ab ao len zs) :
    Calls Try.prog 76 #[.slice (some ⟨ab, ao, none⟩) len cap, Sp a b, .func (.func 77) #[] #[]] w (Ret (Sp (maxT zs (a, b)).1 (maxT zs (a, b)).2) w) := by
  have HZ := Lib.hid hz
  have HL := Lib.hid hlen
  clear hz hlen
  go_enter Try.func76, Try.ntmps76
  go_wp2_with fail
  go_loopw [7, 8, 11] (fun _ _ i wr => ∃ j : Nat, j ≤ len ∧ i = .int .i64 j ∧ wr.cell? ⟨w.heap.size, 0, none⟩ = some (.int .i64 (maxT (zs.take j) (a, b)).1) ∧ wr.cell? ⟨w.heap.size, 1, none⟩ = some (.int .i64 (maxT (zs.take j) (a, b)).2) ∧ wr.frozen? ⟨w.heap.size, 0, none⟩ = false ∧ wr.frozen? ⟨w.heap.size, 1, none⟩ = false ∧ w.heap.size + 1 < wr.heap.size ∧ Below w.heap.size w wr ∧ (wr).cell? ⟨w.heap.size + 1, 0, none⟩ = some (cur (wr) ⟨w.heap.size + 1, 0, none⟩) ∧ (wr).frozen? ⟨w.heap.size + 1, 0, none⟩ = false ∧ (wr).cell? ⟨w.heap.size + 1, 1, none⟩ = some (cur (wr) ⟨w.heap.size + 1, 1, none⟩) ∧ (wr).frozen? ⟨w.heap.size + 1, 1, none⟩ = false) (fun _ _ i _ => len - (intOf i).toNat)
  case atStart => exact ⟨0, Nat.zero_le _, rfl, (by go_simp; rfl), (by go_simp; rfl), (by go_simp), (by go_simp), (by simp), (by (repeat first | with_reducible exact Below.refl _ _ | with_reducible assumption | (with_reducible refine Below.setCell ?_ ?_ _; rotate_left; exact (by first | omega | (simp; done) | (simp; omega))) | (with_reducible refine Below.alloc ?_ ?_ _; rotate_left; exact (by first | omega | (simp; done) | (simp; omega))) | with_reducible refine Below.drew ?_ | with_reducible refine Below_drewN ?_ _)), (by simp only [cur_iff]; go_simp), (by go_simp), (by simp only [cur_iff]; go_simp), (by go_simp)⟩
  case round =>
    obtain ⟨j, hj, rfl, m0, m1, f0, f1, hs1, hB, c0, q0, c1, q1⟩ := hrel
    by_cases hlt : j < len
    · obtain ⟨x0, x1⟩ := HZ.out.below hab hB j hlt
      have hsn : maxT (zs.take (j + 1)) (a, b) = (max (maxT (zs.take j) (a, b)).1 (zs.getD j (0, 0)).1, max (maxT (zs.take j) (a, b)).2 (zs.getD j (0, 0)).2) := by
        have hjl : j < zs.length := by rw [HL.out]; exact hlt
        rw [List.take_succ_eq_append_getElem hjl, maxT_snoc, List.getD_eq_getElem?_getD, List.getElem?_eq_getElem hjl]
        rfl
      have HSN := Lib.hid hsn
      clear hsn
      generalize maxT (zs.take j) (a, b) = v at *
      obtain ⟨v1, v2⟩ := v
      dsimp only at m0 m1 HSN
      generalize (zs.getD j (0, 0)).1 = x at *
      generalize (zs.getD j (0, 0)).2 = y at *
      have hne : ab ≠ w.heap.size := by omega
      have hz1 : ab < wr.heap.size := by omega
      have hz2 : w.heap.size < wr.heap.size := by omega
      go_wp2_with ((with_reducible show Calls _ 77 _ _ _); refine (max1_any _ _ _ _ _ _).mono ?_; rintro e w1 ⟨rfl, hb⟩; have hB : Below w.heap.size w w1 := Below.trans (by (repeat first | with_reducible exact Below.refl _ _ | with_reducible assumption | (with_reducible refine Below.setCell ?_ ?_ _; rotate_left; exact (by first | omega | (simp; done) | (simp; omega))) | (with_reducible refine Below.alloc ?_ ?_ _; rotate_left; exact (by first | omega | (simp; done) | (simp; omega))) | with_reducible refine Below.drew ?_ | with_reducible refine Below_drewN ?_ _)) (hb.mono (by first | omega | (simp; done) | (simp; omega))); obtain ⟨hc, hf⟩ := bcell hb; have hs := hb.size; clear hb; (try simp only [World.size_alloc, World.size_setCell] at hc hf); (try simp only [World.size_alloc, World.size_setCell] at hs); (try have hs' := Nat.lt_of_succ_le hs); (try have hs0 : w.heap.size < w1.heap.size := by omega); (try have hs1 : w.heap.size + 1 < w1.heap.size := by omega); (try have hs2 : w.heap.size + 1 + 1 < w1.heap.size := by omega); (try have hs3 : w.heap.size + 1 + 1 + 1 < w1.heap.size := by omega); (try have iso : (w1.cell? ⟨w.heap.size, 0, none⟩).isSome = true := by (rw [hc _ _ (by first | omega | (simp; done) | (simp; omega))]; (try simp only [isSome_setCell]); first | assumption | go_simp)); (try have iso : (w1.cell? ⟨w.heap.size, 1, none⟩).isSome = true := by (rw [hc _ _ (by first | omega | (simp; done) | (simp; omega))]; (try simp only [isSome_setCell]); first | assumption | go_simp)); (try have iso : (w1.cell? ⟨w.heap.size + 1, 0, none⟩).isSome = true := by (rw [hc _ _ (by first | omega | (simp; done) | (simp; omega))]; (try simp only [isSome_setCell]); first | assumption | go_simp)); (try have iso : (w1.cell? ⟨w.heap.size + 1, 1, none⟩).isSome = true := by (rw [hc _ _ (by first | omega | (simp; done) | (simp; omega))]; (try simp only [isSome_setCell]); first | assumption | go_simp)); (try have iso : (w1.cell? ⟨w.heap.size + 1 + 1, 0, none⟩).isSome = true := by (rw [hc _ _ (by first | omega | (simp; done) | (simp; omega))]; (try simp only [isSome_setCell]); first | assumption | go_simp)); (try have iso : (w1.cell? ⟨w.heap.size + 1 + 1, 1, none⟩).isSome = true := by (rw [hc _ _ (by first | omega | (simp; done) | (simp; omega))]; (try simp only [isSome_setCell]); first | assumption | go_simp)))
      go_roundw
      case rel => exact ⟨j + 1, by omega, by go_num, by rw [HSN.out]; go_simp, by rw [HSN.out]; go_simp, by go_simp, by go_simp, (by first | omega | ((try simp only [World.size_alloc, World.size_setCell, size_drew, size_drewN]); omega) | (simp; done) | (simp; omega)), (by (repeat first | with_reducible exact Below.refl _ _ | with_reducible assumption | (with_reducible refine Below.setCell ?_ ?_ _; rotate_left; exact (by first | omega | (simp; done) | (simp; omega))) | (with_reducible refine Below.alloc ?_ ?_ _; rotate_left; exact (by first | omega | (simp; done) | (simp; omega))) | with_reducible refine Below.drew ?_ | with_reducible refine Below_drewN ?_ _)), (by simp only [cur_iff, isSome_setCell]; go_simp), (by go_simp), (by simp only [cur_iff, isSome_setCell]; go_simp), (by go_simp)⟩
      case measure => simp [intOf]; omega
    · have hjl : j = len := by omega
      have e : zs.take j = zs := by rw [hjl, ← HL.out]; exact List.take_length
      rw [e] at m0 m1
      clear e hjl
      generalize maxT zs (a, b) = v at *
      obtain ⟨v1, v2⟩ := v
      dsimp only at m0 m1
      go_wp2
      exact bodyPost_ret (res2ps Try.results76 _ _ _ _ _ rfl (by (try simp only [isSome_setCell]); first | assumption | go_simp) (by (try simp only [isSome_setCell]); first | assumption | go_simp)) rfl ⟨rfl, by (repeat first | with_reducible exact Below.refl _ _ | with_reducible assumption | (with_reducible refine Below.setCell ?_ ?_ _; rotate_left; exact (by first | omega | (simp; done) | (simp; omega))) | (with_reducible refine Below.alloc ?_ ?_ _; rotate_left; exact (by first | omega | (simp; done) | (simp; omega))) | with_reducible refine Below.drew ?_ | with_reducible refine Below_drewN ?_ _)⟩

end Go.Proofs.Ytohicokoegodjaa
