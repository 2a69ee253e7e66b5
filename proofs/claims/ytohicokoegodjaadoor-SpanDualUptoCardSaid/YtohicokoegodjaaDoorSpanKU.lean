/- Plain facts on And and Or of lists of truths (lists cut in two, the mirror by Not), and lists of truths that the call makes, over this seat's translation. -/
import Derived.Test.YtohicokoegodjaaDoorSpanKT
import Derived.Laws.AppendOwn
import Derived.Laws.AppendOwnNone
namespace Go.Proofs.YtohicokoegodjaaDoor
set_option linter.unusedVariables false
set_option linter.unusedSimpArgs false
open Go.RowKit

theorem andC_three (l : List Int) : andC l = 0 ∨ andC l = 1 ∨ andC l = 2 := by
  unfold andC
  split
  · simp
  · split <;> simp
theorem orC_three (l : List Int) : orC l = 0 ∨ orC l = 1 ∨ orC l = 2 := by
  unfold orC
  split
  · simp
  · split <;> simp
theorem tr_of {v : Int} (h : v = 0 ∨ v = 1 ∨ v = 2) : tr v = v := by rcases h with rfl | rfl | rfl <;> rfl

theorem andC_append (l k : List Int) : andC (l ++ k) = andL (andC l) (andC k) := by
  have key : ∀ n (k : List Int), k.length = n → andC (l ++ k) = andL (andC l) (andC k) := by
    intro n
    induction n with
    | zero =>
      intro k h
      rw [List.length_eq_zero_iff.1 h, List.append_nil]
      rcases andC_three l with e | e | e <;> rw [e] <;> rfl
    | succ n ih =>
      intro k h
      have hne : k ≠ [] := by intro e; rw [e] at h; simp at h
      rw [← List.dropLast_concat_getLast hne, ← List.append_assoc, andC_snoc, andC_snoc, ih _ (by simp [h])]
      rcases andC_three l with e | e | e <;> rcases andC_three k.dropLast with e2 | e2 | e2 <;> rcases tr_three (k.getLast hne) with e3 | e3 | e3 <;> rw [e, e2, e3] <;> rfl
  exact key _ k rfl
theorem orC_append (l k : List Int) : orC (l ++ k) = orL (orC l) (orC k) := by
  have key : ∀ n (k : List Int), k.length = n → orC (l ++ k) = orL (orC l) (orC k) := by
    intro n
    induction n with
    | zero =>
      intro k h
      rw [List.length_eq_zero_iff.1 h, List.append_nil]
      rcases orC_three l with e | e | e <;> rw [e] <;> rfl
    | succ n ih =>
      intro k h
      have hne : k ≠ [] := by intro e; rw [e] at h; simp at h
      rw [← List.dropLast_concat_getLast hne, ← List.append_assoc, orC_snoc, orC_snoc, ih _ (by simp [h])]
      rcases orC_three l with e | e | e <;> rcases orC_three k.dropLast with e2 | e2 | e2 <;> rcases tr_three (k.getLast hne) with e3 | e3 | e3 <;> rw [e, e2, e3] <;> rfl
  exact key _ k rfl
theorem andC_two (x y : Int) (hx : x = 0 ∨ x = 1 ∨ x = 2) (hy : y = 0 ∨ y = 1 ∨ y = 2) : andC [x, y] = andL x y := by
  rcases hx with rfl | rfl | rfl <;> rcases hy with rfl | rfl | rfl <;> rfl
theorem orC_two (x y : Int) (hx : x = 0 ∨ x = 1 ∨ x = 2) (hy : y = 0 ∨ y = 1 ∨ y = 2) : orC [x, y] = orL x y := by
  rcases hx with rfl | rfl | rfl <;> rcases hy with rfl | rfl | rfl <;> rfl

theorem cut_and (l k : List Int) : andC (l ++ k) = andC [andC l, andC k] := by rw [andC_append, andC_two _ _ (andC_three l) (andC_three k)]
theorem cut_or (l k : List Int) : orC (l ++ k) = orC [orC l, orC k] := by rw [orC_append, orC_two _ _ (orC_three l) (orC_three k)]

theorem notL_tr (x : Int) : notL x = notL (tr x) := by
  rcases tr_cases x with ⟨rfl, h⟩ | ⟨rfl, h⟩ | ⟨h0, h1, h⟩
  · rw [h]
  · rw [h]
  · rw [h]; unfold notL; rw [if_neg h0, if_neg h1]; rfl

theorem dual (l : List Int) : notL (andC l) = orC (l.map notL) := by
  have key : ∀ n (l : List Int), l.length = n → notL (andC l) = orC (l.map notL) := by
    intro n
    induction n with
    | zero => intro l h; rw [List.length_eq_zero_iff.1 h]; rfl
    | succ n ih =>
      intro l h
      have hne : l ≠ [] := by intro e; rw [e] at h; simp at h
      rw [← List.dropLast_concat_getLast hne, List.map_append, List.map_singleton, andC_snoc, orC_snoc, ← ih _ (by simp [h]), notL_tr (l.getLast hne)]
      rcases andC_three l.dropLast with e2 | e2 | e2 <;> rcases tr_three (l.getLast hne) with e3 | e3 | e3 <;> rw [e2, e3] <;> rfl
  exact key _ l rfl

/-- A list of truths, nil or not, as append reads it. -/
def Src (w : World) (v : Value) (zs : List Int) : Prop :=
  (v = .slice none 0 0 ∧ zs = []) ∨ ∃ (a : Addr) (len cap : Nat), v = .slice (some a) len cap ∧ zs.length = len ∧ (0 < len → a.block < w.heap.size) ∧ ∀ j, j < len → w.cell? (a.add j) = some (.int .i64 (zs.getD j 0))
theorem Src.below {w w1 : World} {v : Value} {zs : List Int} (h : Src w v zs) (hb : Below w.heap.size w w1) : Src w1 v zs := by
  rcases h with h | ⟨a, len, cap, h1, h2, h3, h4⟩
  · exact .inl h
  · refine .inr ⟨a, len, cap, h1, h2, fun h => Nat.lt_of_lt_of_le (h3 h) hb.size, fun j hj => ?_⟩
    rw [hb.cell (by rw [block_add]; exact h3 (by omega))]
    exact h4 j hj

theorem isTr_of_own {w : World} {base n : Nat} {e : TypeId} {v : Value} {zs : List Int} (h : w.ownsRow base e 1 v n (zs.map (Value.int .i64))) : IsTr w v zs := by
  obtain ⟨hl, h⟩ := h
  have hn : zs.length = n := by simpa using hl
  rcases h with ⟨rfl, rfl⟩ | ⟨g, cap, cur, rfl, hg, hh, hc, hm, hz, ht⟩
  · exact .inl ⟨none, 0, rfl, List.eq_nil_of_length_eq_zero hn⟩
  · by_cases h0 : n = 0
    · subst h0
      exact .inl ⟨_, _, rfl, List.eq_nil_of_length_eq_zero hn⟩
    · have hlt : g < w.heap.size := by
        rcases Nat.lt_or_ge g w.heap.size with h | h
        · exact h
        · rw [Array.getElem?_eq_none h] at hh; cases hh
      refine .inr ⟨g, 0, n, cap, rfl, hlt, hn, Nat.le_trans hc hm, fun j hj => ?_⟩
      rw [cell_of_row w g (0 + j) cur e (0, 0) hh, ← Array.getElem?_toList]
      have h1 : (cur.toList.take (n * 1))[j]? = (zs.map (Value.int .i64))[j]? := by rw [ht]
      rw [List.getElem?_take_of_lt (by omega)] at h1
      rw [Nat.zero_add, h1, List.getElem?_map, List.getD_eq_getElem?_getD]
      have hjz : j < zs.length := by omega
      simp [hjz]

theorem isTr_two {w : World} {g : Nat} {x y : Int} (hg : g < w.heap.size) (h0 : w.cell? ⟨g, 0, none⟩ = some (.int .i64 x)) (h1 : w.cell? ⟨g, 1, none⟩ = some (.int .i64 y)) : IsTr w (.slice (some ⟨g, 0, none⟩) 2 2) [x, y] := by
  refine .inr ⟨g, 0, 2, 2, rfl, hg, rfl, by unfold maxLen; omega, fun j hj => ?_⟩
  rcases j with _ | _ | j
  · exact h0
  · exact h1
  · omega

/-- append of a list of truths, nil or not, to one that the call made. -/
theorem append_tr {ops : Array Oper} {rest : List Oper} {o : Oper} {a : Act} {Q : Exit → Act → World → Prop} {w : World} (hgd : o.guard = none) (s x : Operand)
    (ho : o.op = .call { callee := .builtin .append, args := #[s, x], argTypes := #[24, 24] })
    (base : Nat) (v : Value) (n : Nat) (xs : List Value) (hs : a.eval s = v) (hown : w.ownsRow base 25 1 v n xs)
    (u : Value) (zs : List Int) (hx : a.eval x = u) (hI : Src w u zs) (hb : n + zs.length ≤ 4194304) (hbase : base ≤ w.heap.size)
    (h : ∀ v' w', w'.ownsRow base 25 1 v' (n + zs.length) (xs ++ zs.map (Value.int .i64)) → (w' = w ∨ w.grownBy w' v.ownBlock) → wpList Tryd.prog ops Q rest (a.put o.dst v') w') : wpList Tryd.prog ops Q (o :: rest) a w := by
  have hI0 : (Tryd.prog.info? 25).map (fun i => (i.zero, i.size, i.bytes)) = some (some (.int .i64 0), 1, 8) := by kernel_rfl
  obtain ⟨i0, hi, hz0, hz1, hz2⟩ := info_parts hI0
  rcases hI with ⟨rfl, rfl⟩ | ⟨ad, len, cap, rfl, h2, h3, h4⟩
  · exact wpList_append_own_none hgd s x 24 ho base 25 i0 1 Tryd.underlying24 hi v n xs hs hown hx (h v w (by simpa using hown) (.inl rfl))
  · subst h2
    refine wpList_append_own _ hgd s x 24 ho base 25 i0 (.int .i64 0) 1 8 Tryd.underlying24 hi hz0 hz1 hz2 rfl (by decide) v n xs hs hown ad zs.length cap (zs.map (Value.int .i64)) hx (by simp) (fun j u hu => ?_) (fun u hu => ?_) (by unfold maxLen; omega) (by omega) hbase (fun v' w' h5 h6 _ => h v' w' h5 (.inr h6))
    · have hj : j < zs.length := by
        have := (List.getElem?_eq_some_iff.1 hu).1
        simpa using this
      rw [h4 j hj]
      rw [List.getElem?_map, List.getElem?_eq_getElem hj] at hu
      rw [List.getD_eq_getElem?_getD, List.getElem?_eq_getElem hj]
      simpa using hu
    · obtain ⟨z, _, rfl⟩ := List.mem_map.1 hu
      rfl

theorem below_grown {B : Nat} {w0 w w1 : World} {e : TypeId} {v : Value} {n : Nat} {xs : List Value} (h : Below B w0 w) (hown : w.ownsRow B e 1 v n xs) (hg : w1 = w ∨ w.grownBy w1 v.ownBlock) (hB : B ≤ w.heap.size) : Below B w0 w1 := by
  rcases hg with rfl | hg
  · exact h
  · refine h.grown hg hB (fun k hk => ?_)
    rcases hown.2 with ⟨rfl, _⟩ | ⟨g, cap, cur, rfl, hb, _⟩
    · simp [Value.ownBlock] at hk
    · simp [Value.ownBlock] at hk
      omega

/-- A list of no truths that the call has just made. -/
theorem own_empty (w : World) (B : Nat) (h : B ≤ w.heap.size) : (w.alloc (.cells #[] 25)).ownsRow B 25 1 (.slice (some ⟨w.heap.size, 0, none⟩) 0 0) 0 [] :=
  ⟨rfl, .inr ⟨w.heap.size, 0, #[], rfl, h, heap_alloc_new w _, Nat.le_refl _, Nat.zero_le _, rfl, rfl⟩⟩

theorem src_one (w : World) (x : Int) : Src (w.alloc (.cells #[.int .i64 x] 25)) (.slice (some ⟨w.heap.size, 0, none⟩) 1 1) [x] := by
  refine .inr ⟨⟨w.heap.size, 0, none⟩, 1, 1, rfl, rfl, fun _ => by simp, fun j hj => ?_⟩
  obtain rfl : j = 0 := by omega
  simp [Addr.add, go_sem]

end Go.Proofs.YtohicokoegodjaaDoor
