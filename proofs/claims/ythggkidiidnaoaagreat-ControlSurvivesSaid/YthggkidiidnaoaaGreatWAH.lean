import Derived.Test.YthggkidiidnaoaaGreatWAA
import Derived.Test.YthggkidiidnaoaaGreatWAG
import Derived.Laws.AppendOwn
import Derived.Deep.AppendLies
namespace Go.Proofs.YthggkidiidnaoaaGreat
set_option linter.unusedVariables false
set_option linter.unusedSimpArgs false
section
open Go.RowKit
def DivI (P O : List Int) (B : Int) (i : Nat) (R : Int) : Prop :=
 O.length = P.length ∧ Digs O ∧ 0 ≤ R ∧ R < B ∧ val (P.drop i) = B * val (O.drop i) + R
theorem digs_zeros (n : Nat) : Digs (List.replicate n 0) := fun d h => by
 rw [(List.mem_replicate.1 h).2]; exact ⟨by decide, by decide⟩
theorem digs_set {O : List Int} {k : Nat} {v : Int} (h : Digs O) (h0 : 0 ≤ v) (h1 : v < 10000) : Digs (O.set k v) := fun d hd => by
 rcases List.mem_or_eq_of_mem_set hd with h2 | h2
 ·exact h d h2
 ·rw [h2]; exact ⟨h0, h1⟩
theorem divI_start (P : List Int) (B : Int) (hB : 0 < B) : DivI P (List.replicate P.length 0) B P.length 0 := by
 refine ⟨by simp, digs_zeros _, Int.le_refl _, hB, ?_⟩
 rw [List.drop_eq_nil_of_le (Nat.le_refl _), List.drop_eq_nil_of_le (by simp)]
 show (0 : Int) = B * 0 + 0
 omega
theorem divI_step {P O : List Int} {B R q : Int} {k : Nat} (hk : k < P.length) (h : DivI P O B (k + 1) R) (h0 : 0 ≤ q) (h1 : q < 10000)
  (l : B * q ≤ P.getD k 0 + 10000 * R) (u : P.getD k 0 + 10000 * R < B * (q + 1)) : DivI P (O.set k q) B k (P.getD k 0 + 10000 * R - B * q) := by
 obtain ⟨a, b, c, d, e⟩ := h
 refine ⟨by rw [List.length_set, a], digs_set b h0 h1, by omega, by rw [Int.mul_add, Int.mul_one] at u; omega, ?_⟩
 have hkO : k < (O.set k q).length := by rw [List.length_set, a]; exact hk
 rw [drop_step P k hk, drop_step (O.set k q) k hkO, e]
 have e1 : (O.set k q).getD k 0 = q := by
  rw [getD_set _ _ _ _ (by rw [a]; exact hk), if_pos rfl]
 have e2 : (O.set k q).drop (k + 1) = O.drop (k + 1) := by
  rw [List.drop_set, if_pos om9]
 rw [e1, e2, Int.mul_add B q, ← Int.mul_assoc B 10000, Int.mul_comm B 10000, Int.mul_assoc 10000 B, Int.mul_add]
 omega
theorem divI_end {P O : List Int} {B R : Int} (h : DivI P O B 0 R) : val O = val P / B ∧ R = val P % B := by
 obtain ⟨a, b, c, d, e⟩ := h
 rw [List.drop_zero, List.drop_zero] at e
 rw [e, Int.mul_add_ediv_left _ _ om9, Int.ediv_eq_zero_of_lt c d, Int.add_zero, Int.mul_add_emod_self_left, Int.emod_eq_of_lt c d]
 exact ⟨rfl, rfl⟩
theorem ediv_neg_up (m B : Int) (hB : 0 < B) : (-m) / B = -(m / B + if 0 < m % B then 1 else 0) := by
 have e := Int.mul_ediv_add_emod m B
 have m0 := Int.emod_nonneg m (show B ≠ 0 by omega)
 have m1 := Int.emod_lt_of_pos m hB
 by_cases h : 0 < m % B
 ·rw [if_pos h]
  have e1 : -m = (B - m % B) + B * -(m / B + 1) := by rw [Int.mul_neg, Int.mul_add, Int.mul_one]; omega
  rw [e1, Int.add_mul_ediv_left _ _ (show B ≠ 0 by omega), Int.ediv_eq_zero_of_lt om9 om9, Int.zero_add]
 ·rw [if_neg h]
  have e1 : -m = B * -(m / B) := by rw [Int.mul_neg]; omega
  rw [e1, Int.mul_ediv_cancel_left _ (show B ≠ 0 by omega), Int.add_zero]
theorem floor_same {a b : Int} (hb : b ≠ 0) (h : (decide (a < 0) == decide (b < 0)) = true ∨ a = 0) : max a (-a) / max b (-b) = flo a b := by
 unfold flo
 rcases h with h | h
 ·have h := beq_iff_eq.1 h
  by_cases h0 : b < 0
  ·have : a < 0 := by rw [decide_eq_true h0] at h; exact of_decide_eq_true h
   rw [if_neg om9, show max a (-a) = -a by omega, show max b (-b) = -b by omega]
  ·have : ¬a < 0 := by rw [decide_eq_false h0] at h; exact of_decide_eq_false h
   rw [if_pos om9, show max a (-a) = a by omega, show max b (-b) = b by omega]
 ·subst h
  split <;> simp
theorem floor_diff {a b : Int} (hb : b ≠ 0) (h : (decide (a < 0) == decide (b < 0)) = false) : -(max a (-a) / max b (-b) + if 0 < max a (-a) % max b (-b) then 1 else 0) = flo a b := by
 rw [← ediv_neg_up _ _ (show 0 < max b (-b) by omega)]
 unfold flo
 have h := beq_eq_false_iff_ne.1 h
 by_cases h0 : b < 0
 ·have : ¬a < 0 := fun h1 => h (by rw [decide_eq_true h0, decide_eq_true h1])
  rw [if_neg (show ¬0 < b by omega), show max a (-a) = a by omega, show max b (-b) = -b by omega]
 ·have : a < 0 := by
   rcases Int.lt_or_le a 0 with h1 | h1
   ·exact h1
   ·exact absurd (by rw [decide_eq_false h0, decide_eq_false om9]) h
  rw [if_pos (show 0 < b by omega), show max a (-a) = -a by omega, show max b (-b) = b by omega, Int.neg_neg]
set_option maxRecDepth 100000 in
theorem prepend_step {ops : Array Oper} {o : Oper} {a : Act} {K : Act → World → Prop} {Q : Exit → Act → World → Prop} {E : Prop} (w : World) (hgd : o.guard = none) (s x : Operand)
  (ho : o.op = .call { callee := .builtin .append, args := #[s, x], argTypes := #[30, 30] })
  (g : Nat) (d : Int) (hs : a.eval s = .slice (some ⟨g, 0, none⟩) 1 1) (hblk : w.heap[g]? = some (.cells #[.int .i64 d] 3 (0, 0)))
  (A : Option Addr) (k c : Nat) (R : List Int) (hx : a.eval x = .slice A k c) (hR : IsI w 0 A k R) (hk : k ≤ 64)
  (h : ∀ (A' : Option Addr) (cap' : Nat) w', IsI w' g A' (k + 1) (d :: R) → k + 1 ≤ cap' → Below g w w' → K (a.put o.dst (.slice A' (k + 1) cap')) w') :
  if Region.wanted o (yielded ops a.tmps) = true then Oper.wp Tryz.prog o a w K Q else E := by
 have hw : Region.wanted o (yielded ops a.tmps) = true := by simp [Region.wanted, hgd]
 rw [if_pos hw]
 have hlt : g < w.heap.size := by
  rcases Nat.lt_or_ge g w.heap.size with h1 | h1
  ·exact h1
  ·rw [Array.getElem?_eq_none h1] at hblk; cases hblk
 have hown : w.ownsRow g 3 1 (.slice (some ⟨g, 0, none⟩) 1 1) 1 [.int .i64 d] :=
  ⟨rfl, .inr ⟨g, 1, #[.int .i64 d], rfl, Nat.le_refl _, hblk, Nat.le_refl _, by decide, rfl, rfl⟩⟩
 have hI0 : (Tryz.prog.info? 3).map (fun i => (i.zero, i.size, i.bytes)) = some (some (.int .i64 0), 1, 8) := by kernel_rfl
 obtain ⟨i0, hi, hz0, hz1, hz2⟩ := info_parts hI0
 have fin : ∀ v' w', w'.ownsRow g 3 1 v' (1 + k) ([.int .i64 d] ++ R.map (Value.int .i64)) → w.grownBy w' (Value.slice (some ⟨g, 0, none⟩) 1 1).ownBlock → K (a.put o.dst v') w' := by
  intro v' w' h2 h3
  obtain ⟨A', cap', rfl, hc, hI⟩ := isI_of_own (P := d :: R) h2
  rw [Nat.add_comm 1 k] at hI hc ⊢
  exact h A' cap' w' hI hc (below_grownB (Below.refl _ _) hown h3 om9)
 rcases A with _ | ad
 ·have k0 : k = 0 := by
   rcases Nat.eq_zero_or_pos k with h1 | h1
   ·exact h1
   ·obtain ⟨b, ob, e, _⟩ := hR.2 h1
    cases e
  subst k0
  have hr : (Builtin.append_ #[30, 30] o.type #[.slice (some ⟨g, 0, none⟩) 1 1, .slice none 0 c]).run Tryz.prog w = .ok (.slice (some ⟨g, 0, none⟩) 1 1) w := by
   simp [Builtin.append_, run_underlying Tryz.underlying30, sizeOf, typeInfo, hi, Builtin.lenOf, Builtin.firstCells, storeCells]
  unfold Oper.wp execOp
  simp only [ho, resolve, invoke, builtin, Sem.run_bind, Sem.run_pure, Result.andThen_ok, List.map_toArray, List.map_cons, List.map_nil, hs, hx, hr]
  have hl : R = [] := List.eq_nil_of_length_eq_zero hR.1
  subst hl
  exact h (some ⟨g, 0, none⟩) 1 w ⟨rfl, fun _ => ⟨g, 0, rfl, Nat.le_refl _, hlt, fun j hj => by
   rw [cell_of_row w g (0 + j) _ _ _ hblk]
   rw [show j = 0 by omega]
   rfl⟩⟩ (Nat.le_refl _) (Below.refl _ _)
 ·refine wp_append_own w s x 30 ho g 3 i0 (.int .i64 0) 1 8 Tryz.underlying30 hi hz0 hz1 hz2 rfl de9 _ 1 _ hs hown ad k c (R.map (Value.int .i64)) hx (by rw [List.length_map, hR.1]; omega) (fun j u hu => ?_) (fun u hu => ?_) (by unfold maxLen; omega) om9 om9 (fun v' w' h2 h3 _ => fin v' w' h2 h3)
  ·obtain ⟨hj, hju⟩ := List.getElem?_eq_some_iff.1 hu
   rw [List.length_map, hR.1] at hj
   obtain ⟨b, ob, e, _, _, hc⟩ := hR.2 om9
   injection e with e
   subst e
   have hadd : (⟨b, ob, none⟩ : Addr).add j = ⟨b, ob + j, none⟩ := by unfold Addr.add; split <;> simp_all
   rw [hadd, hc j hj, ← hju, List.getElem_map, List.getD_eq_getElem?_getD, List.getElem?_eq_getElem (by rw [hR.1]; exact hj)]
   rfl
  ·obtain ⟨n, _, rfl⟩ := List.mem_map.1 hu
   rfl
end
section
open Go.RowKit
structure EW (w wr : World) (x y : Nat) (u0 u1 v0 v1 : Value) : Prop where
 x0 : wr.cell? ⟨x, 0, none⟩ = some u0
 x1 : wr.cell? ⟨x, 1, none⟩ = some u1
 y0 : wr.cell? ⟨y, 0, none⟩ = some v0
 y1 : wr.cell? ⟨y, 1, none⟩ = some v1
 fx0 : wr.frozen? ⟨x, 0, none⟩ = false
 fx1 : wr.frozen? ⟨x, 1, none⟩ = false
 fy0 : wr.frozen? ⟨y, 0, none⟩ = false
 fy1 : wr.frozen? ⟨y, 1, none⟩ = false
 r0 : (wr.cell? ⟨w.heap.size, 0, none⟩).isSome = true
 r1 : (wr.cell? ⟨w.heap.size, 1, none⟩).isSome = true
 r2 : (wr.cell? ⟨w.heap.size + 1, 0, none⟩).isSome = true
 r3 : (wr.cell? ⟨w.heap.size + 1, 1, none⟩).isSome = true
 f0 : wr.frozen? ⟨w.heap.size, 0, none⟩ = false
 f1 : wr.frozen? ⟨w.heap.size, 1, none⟩ = false
 f2 : wr.frozen? ⟨w.heap.size + 1, 0, none⟩ = false
 f3 : wr.frozen? ⟨w.heap.size + 1, 1, none⟩ = false
 hx : w.heap.size + 1 < x
 hy : w.heap.size + 1 < y
 hxy : x ≠ y
 lx : x < wr.heap.size
 ly : y < wr.heap.size
 hB : Below w.heap.size w wr
theorem EW.drew {w wr : World} {x y : Nat} {u0 u1 v0 v1 : Value} (h : EW w wr x y u0 u1 v0 v1) : EW w wr.drew x y u0 u1 v0 v1 :=
 ⟨h.x0, h.x1, h.y0, h.y1, h.fx0, h.fx1, h.fy0, h.fy1, h.r0, h.r1, h.r2, h.r3, h.f0, h.f1, h.f2, h.f3, h.hx, h.hy, h.hxy, h.lx, h.ly, h.hB.drew⟩
theorem EW.call {w wr w1 : World} {x y : Nat} {u0 u1 v0 v1 : Value} (h : EW w wr x y u0 u1 v0 v1) (hb : Below wr.heap.size wr w1) : EW w w1 x y u0 u1 v0 v1 := by
 have lx := h.lx
 have ly := h.ly
 have hx := h.hx
 have c : ∀ b o, b < wr.heap.size → w1.cell? ⟨b, o, none⟩ = wr.cell? ⟨b, o, none⟩ := fun b o hh => hb.cell (p := ⟨b, o, none⟩) hh
 have f : ∀ b o, b < wr.heap.size → w1.frozen? ⟨b, o, none⟩ = wr.frozen? ⟨b, o, none⟩ := fun b o hh => hb.frozen (p := ⟨b, o, none⟩) hh
 have hs := hb.size
 refine ⟨?_, ?_, ?_, ?_, ?_, ?_, ?_, ?_, ?_, ?_, ?_, ?_, ?_, ?_, ?_, ?_, h.hx, h.hy, h.hxy, by omega, by omega, h.hB.trans (hb.mono h.hB.size)⟩
 ·rw [c _ _ lx]; exact h.x0
 ·rw [c _ _ lx]; exact h.x1
 ·rw [c _ _ ly]; exact h.y0
 ·rw [c _ _ ly]; exact h.y1
 ·rw [f _ _ lx]; exact h.fx0
 ·rw [f _ _ lx]; exact h.fx1
 ·rw [f _ _ ly]; exact h.fy0
 ·rw [f _ _ ly]; exact h.fy1
 ·rw [c _ _ om9]; exact h.r0
 ·rw [c _ _ om9]; exact h.r1
 ·rw [c _ _ om9]; exact h.r2
 ·rw [c _ _ om9]; exact h.r3
 ·rw [f _ _ om9]; exact h.f0
 ·rw [f _ _ om9]; exact h.f1
 ·rw [f _ _ om9]; exact h.f2
 ·rw [f _ _ om9]; exact h.f3
theorem set_two {W : World} {b : Nat} {p q u v : Value} (h0 : W.cell? ⟨b, 0, none⟩ = some u) (h1 : W.cell? ⟨b, 1, none⟩ = some v) :
  ((W.setCell ⟨b, 0, none⟩ p).setCell ⟨b, 1, none⟩ q).cell? ⟨b, 0, none⟩ = some p ∧ ((W.setCell ⟨b, 0, none⟩ p).setCell ⟨b, 1, none⟩ q).cell? ⟨b, 1, none⟩ = some q := by
 have n1 : (⟨b, 1, none⟩ : Addr) ≠ ⟨b, 0, none⟩ := by simp
 refine ⟨(World.cell?_setCell_other _ _ _ _ n1).trans (World.cell?_setCell_same' _ _ _ (by rw [h0]; rfl)), World.cell?_setCell_same' _ _ _ (by rw [isSome_setCell, h1]; rfl)⟩
theorem set_far {W : World} {b c o : Nat} {p q : Value} (h : b ≠ c) : ((W.setCell ⟨b, 0, none⟩ p).setCell ⟨b, 1, none⟩ q).cell? ⟨c, o, none⟩ = W.cell? ⟨c, o, none⟩ := by
 rw [World.cell?_setCell_other _ _ _ _ (by simp [h]), World.cell?_setCell_other _ _ _ _ (by simp [h])]
end
section
open Go.RowKit
structure FQ (wc wr : World) (n : Nat) (O : List Int) (A : Option Addr) (k c : Nat) : Prop where
 hB : Below wc.heap.size wc wr
 row : RowI wr wc.heap.size O
 q0 : wr.cell? ⟨wc.heap.size + 1, 0, none⟩ = some (.bool false)
 q1 : wr.cell? ⟨wc.heap.size + 1, 1, none⟩ = some (.slice (some ⟨wc.heap.size, 0, none⟩) n n)
 fq0 : wr.frozen? ⟨wc.heap.size + 1, 0, none⟩ = false
 fq1 : wr.frozen? ⟨wc.heap.size + 1, 1, none⟩ = false
 t0 : wr.cell? ⟨wc.heap.size + 1 + 1, 0, none⟩ = some (.bool false)
 t1 : wr.cell? ⟨wc.heap.size + 1 + 1, 1, none⟩ = some (.slice A k c)
 ft0 : wr.frozen? ⟨wc.heap.size + 1 + 1, 0, none⟩ = false
 ft1 : wr.frozen? ⟨wc.heap.size + 1 + 1, 1, none⟩ = false
 hs : wc.heap.size + 1 + 1 < wr.heap.size
 tn : ∀ o, 2 ≤ o → wr.cell? ⟨wc.heap.size + 1 + 1, o, none⟩ = none
 tq : ∀ o, 2 ≤ o → wr.cell? ⟨wc.heap.size + 1, o, none⟩ = none
theorem FQ.drew {wc wr : World} {n : Nat} {O : List Int} {A : Option Addr} {k c : Nat} (h : FQ wc wr n O A k c) : FQ wc wr.drew n O A k c :=
 ⟨h.hB.drew, h.row, h.q0, h.q1, h.fq0, h.fq1, h.t0, h.t1, h.ft0, h.ft1, h.hs, h.tn, h.tq⟩
theorem FQ.call {wc wr w1 : World} {n : Nat} {O : List Int} {A : Option Addr} {k c : Nat} {B : Nat} (h : FQ wc wr n O A k c) (hb : Below B wr w1) (hB : wc.heap.size + 1 + 1 < B) : FQ wc w1 n O A k c := by
 have hs := h.hs
 have e : ∀ b o, b < B → w1.cell? ⟨b, o, none⟩ = wr.cell? ⟨b, o, none⟩ := fun b o hh => hb.cell (p := ⟨b, o, none⟩) hh
 have f : ∀ b o, b < B → w1.frozen? ⟨b, o, none⟩ = wr.frozen? ⟨b, o, none⟩ := fun b o hh => hb.frozen (p := ⟨b, o, none⟩) hh
 have hz := hb.size
 refine ⟨h.hB.trans (hb.mono om9), (hb.block _ om9).trans h.row, ?_, ?_, ?_, ?_, ?_, ?_, ?_, ?_, by omega, fun o ho => by rw [e _ _ om9]; exact h.tn o ho, fun o ho => by rw [e _ _ om9]; exact h.tq o ho⟩
 ·rw [e _ _ om9]; exact h.q0
 ·rw [e _ _ om9]; exact h.q1
 ·rw [f _ _ om9]; exact h.fq0
 ·rw [f _ _ om9]; exact h.fq1
 ·rw [e _ _ om9]; exact h.t0
 ·rw [e _ _ om9]; exact h.t1
 ·rw [f _ _ om9]; exact h.ft0
 ·rw [f _ _ om9]; exact h.ft1
theorem FQ.storeQ {wc wr : World} {n : Nat} {O : List Int} {A : Option Addr} {k c : Nat} (h : FQ wc wr n O A k c) (p : Nat) (v : Int) : FQ wc (wr.setCell ⟨wc.heap.size, p, none⟩ (.int .i64 v)) n (O.set p v) A k c := by
 have ne : ∀ b o : Nat, b ≠ wc.heap.size → (⟨wc.heap.size, p, none⟩ : Addr) ≠ ⟨b, o, none⟩ := fun b o hb e => hb (by injection e with e; exact e.symm)
 refine ⟨h.hB.setCell (Nat.le_refl _) _, h.row.store p v, ?_, ?_, ?_, ?_, ?_, ?_, ?_, ?_, by rw [World.size_setCell]; exact h.hs, fun o ho => by rw [World.cell?_setCell_other _ _ _ _ (ne _ _ om9)]; exact h.tn o ho, fun o ho => by rw [World.cell?_setCell_other _ _ _ _ (ne _ _ om9)]; exact h.tq o ho⟩
 ·rw [World.cell?_setCell_other _ _ _ _ (ne _ _ om9)]; exact h.q0
 ·rw [World.cell?_setCell_other _ _ _ _ (ne _ _ om9)]; exact h.q1
 ·rw [World.frozen?_setCell]; exact h.fq0
 ·rw [World.frozen?_setCell]; exact h.fq1
 ·rw [World.cell?_setCell_other _ _ _ _ (ne _ _ om9)]; exact h.t0
 ·rw [World.cell?_setCell_other _ _ _ _ (ne _ _ om9)]; exact h.t1
 ·rw [World.frozen?_setCell]; exact h.ft0
 ·rw [World.frozen?_setCell]; exact h.ft1
theorem set_two' {W : World} {b : Nat} {p q u v : Value} (h0 : W.cell? ⟨b, 0, none⟩ = some u) (h1 : W.cell? ⟨b, 1, none⟩ = some v) :
  ((W.setCell ⟨b, 0, none⟩ p).setCell ⟨b, 1, none⟩ q).cell? ⟨b, 0, none⟩ = some p ∧ ((W.setCell ⟨b, 0, none⟩ p).setCell ⟨b, 1, none⟩ q).cell? ⟨b, 1, none⟩ = some q := by
 have n1 : (⟨b, 1, none⟩ : Addr) ≠ ⟨b, 0, none⟩ := by simp
 refine ⟨(World.cell?_setCell_other _ _ _ _ n1).trans (World.cell?_setCell_same' _ _ _ (by rw [h0]; rfl)), World.cell?_setCell_same' _ _ _ (by rw [isSome_setCell, h1]; rfl)⟩
theorem FQ.storeT {wc wr : World} {n : Nat} {O : List Int} {A A' : Option Addr} {k c k' c' : Nat} (h : FQ wc wr n O A k c) : FQ wc ((wr.setCell ⟨wc.heap.size + 1 + 1, 0, none⟩ (.bool false)).setCell ⟨wc.heap.size + 1 + 1, 1, none⟩ (.slice A' k' c')) n O A' k' c' := by
 have ne : ∀ i b o : Nat, b ≠ wc.heap.size + 1 + 1 → (⟨wc.heap.size + 1 + 1, i, none⟩ : Addr) ≠ ⟨b, o, none⟩ := fun i b o hb e => hb (by injection e with e; exact e.symm)
 have s := set_two' (p := .bool false) (q := .slice A' k' c') h.t0 h.t1
 refine ⟨(h.hB.setCell (by (simp; omega)) _).setCell (by (simp; omega)) _, ?_, ?_, ?_, ?_, ?_, s.1, s.2, ?_, ?_, by rw [World.size_setCell, World.size_setCell]; exact h.hs, fun o ho => by rw [World.cell?_setCell_other _ _ _ _ (by (simp; done)), World.cell?_setCell_other _ _ _ _ (by (simp; done))]; exact h.tn o ho, fun o ho => by rw [World.cell?_setCell_other _ _ _ _ (ne _ _ _ om9), World.cell?_setCell_other _ _ _ _ (ne _ _ _ om9)]; exact h.tq o ho⟩
 ·show _ = _
  rw [Below.heap_setCell _ _ _ _ (by (simp; omega)), Below.heap_setCell _ _ _ _ (by (simp; omega))]
  exact h.row
 ·rw [World.cell?_setCell_other _ _ _ _ (ne _ _ _ om9), World.cell?_setCell_other _ _ _ _ (ne _ _ _ om9)]; exact h.q0
 ·rw [World.cell?_setCell_other _ _ _ _ (ne _ _ _ om9), World.cell?_setCell_other _ _ _ _ (ne _ _ _ om9)]; exact h.q1
 ·rw [World.frozen?_setCell, World.frozen?_setCell]; exact h.fq0
 ·rw [World.frozen?_setCell, World.frozen?_setCell]; exact h.fq1
 ·rw [World.frozen?_setCell, World.frozen?_setCell]; exact h.ft0
 ·rw [World.frozen?_setCell, World.frozen?_setCell]; exact h.ft1
def RestV (w : World) (base : Nat) (A : Option Addr) (k c : Nat) (z : Int) : Prop := ∃ R, IsI w base A k R ∧ k ≤ c ∧ k ≤ 64 ∧ Canon R ∧ val R = z
theorem RestV.below {w w1 : World} {base : Nat} {A : Option Addr} {k c : Nat} {z : Int} (h : RestV w base A k c z) (hb : Below w.heap.size w w1) : RestV w1 base A k c z := by
 obtain ⟨R, h1, h2⟩ := h
 exact ⟨R, h1.below hb, h2⟩
theorem RestV.setCell {w : World} {base : Nat} {A : Option Addr} {k c : Nat} {z : Int} (h : RestV w base A k c z) {p : Addr} (hp : p.block < base) (v : Value) : RestV (w.setCell p v) base A k c z := by
 obtain ⟨R, h1, h2⟩ := h
 exact ⟨R, h1.setCell hp v, h2⟩
theorem RestV.big {w : World} {base : Nat} {A : Option Addr} {k c : Nat} {z : Int} (h : RestV w base A k c z) (hz : 0 ≤ z) : BigV w (.agg #[.bool false, .slice A k c]) z := by
 obtain ⟨R, h1, h2, h3, h4, h5⟩ := h
 exact ⟨A, k, c, R, by rw [decide_eq_false om9], h1.mono (Nat.zero_le _), h2, h3, h4, by omega⟩
theorem BigV.rest {w : World} {A : Option Addr} {k c : Nat} {z : Int} (h : BigV w (.agg #[.bool false, .slice A k c]) z) : RestV w 0 A k c z := by
 obtain ⟨A', k', c', R, e, h1, h2, h3, h4, h5⟩ := h
 injection e with e
 have e0 := congrArg (fun a : Array Value => a[0]?) e
 have e1 := congrArg (fun a : Array Value => a[1]?) e
 simp at e0 e1
 obtain ⟨rfl, rfl, rfl⟩ := e1
 exact ⟨R, h1, h2, h3, h4, by omega⟩
theorem RestV.far {w : World} {base : Nat} {A A0 : Option Addr} {k c k0 c0 rb : Nat} {z : Int} {x : Bool} (h : RestV w base A k c z) (h0 : w.cell? ⟨rb, 0, none⟩ = some (.bool x)) (h1 : w.cell? ⟨rb, 1, none⟩ = some (.slice A0 k0 c0))
  (hn : ∀ o, 2 ≤ o → w.cell? ⟨rb, o, none⟩ = none) (p q : Value) : RestV ((w.setCell ⟨rb, 0, none⟩ p).setCell ⟨rb, 1, none⟩ q) base A k c z := by
 obtain ⟨R, hI, hr⟩ := h
 refine ⟨R, ⟨hI.1, fun hk => ?_⟩, hr⟩
 obtain ⟨b, o, e, g0, g1, g2⟩ := hI.2 hk
 have hb : b ≠ rb := by
  rintro rfl
  have g := g2 0 hk
  rcases o with _ | _ | o
  ·rw [show 0 + 0 = 0 from rfl, h0] at g; cases g
  ·rw [show 0 + 1 + 0 = 1 from rfl, h1] at g; cases g
  ·rw [hn _ om9] at g; cases g
 refine ⟨b, o, e, g0, by rw [World.size_setCell, World.size_setCell]; exact g1, fun j hj => ?_⟩
 rw [World.cell?_setCell_other _ _ _ _ (by (simp; done)), World.cell?_setCell_other _ _ _ _ (by (simp; done))]
 exact g2 j hj
theorem BigB.open' {w : World} {base : Nat} {v : Value} {z : Int} (h : BigB w base v z) : ∃ (neg : Bool) (A : Option Addr) (k c : Nat), v = .agg #[.bool neg, .slice A k c] ∧ BigB w base (.agg #[.bool neg, .slice A k c]) z := by
 obtain ⟨A, k, c, P, e, i⟩ := h
 exact ⟨_, A, k, c, e, A, k, c, P, rfl, i⟩
theorem RestV.bigB {w : World} {base : Nat} {A : Option Addr} {k c : Nat} {z : Int} (h : RestV w base A k c z) (hz : 0 ≤ z) : BigB w base (.agg #[.bool false, .slice A k c]) z := by
 obtain ⟨R, h1, h2, h3, h4, h5⟩ := h
 exact ⟨A, k, c, R, by rw [decide_eq_false om9], h1, h2, h3, h4, by omega⟩
theorem BigB.far {w : World} {base : Nat} {A0 : Option Addr} {k0 c0 rb : Nat} {z : Int} {x : Bool} {v : Value} (h : BigB w base v z) (h0 : w.cell? ⟨rb, 0, none⟩ = some (.bool x)) (h1 : w.cell? ⟨rb, 1, none⟩ = some (.slice A0 k0 c0))
  (hn : ∀ o, 2 ≤ o → w.cell? ⟨rb, o, none⟩ = none) (p q : Value) : BigB ((w.setCell ⟨rb, 0, none⟩ p).setCell ⟨rb, 1, none⟩ q) base v z := by
 obtain ⟨A, k, c, R, e, hI, h2, h3, h4, h5⟩ := h
 obtain ⟨R', i1, i2, i3, i4, i5⟩ := RestV.far (z := val R) ⟨R, hI, h2, h3, h4, rfl⟩ h0 h1 hn p q
 exact ⟨A, k, c, R', e, i1, i2, i3, i4, by rw [i5, h5]⟩
end
end Go.Proofs.YthggkidiidnaoaaGreat
