import Derived.WalkKit
import Derived.Lib.Hide
import Derived.Deep.RegionHeld
namespace Go.Proofs.YthggkidiidnaoaaGreatDoor
set_option linter.unusedVariables false
set_option linter.unusedSimpArgs false
section
set_option autoImplicit false
open Go.RowKit
abbrev Slots := List (Nat × Value)
def look : Slots → Nat → Option Value
 | [], _ => none
 | (j, v) :: l, t => bif Nat.beq j t then some v else look l t
structure Cfg where
 (n : Nat) (D : List Deferred) (w : World) (lent : List Nat)
structure Fr (E : Cfg) (l : Slots) (a : Act) : Prop where
 size : a.tmps.size = E.n
 defers : a.defers = E.D
 slot : ∀ t v, look l t = some v → a.tmps[t]? = some v
def E (l : Slots) : Operand → Option Value
 | .tmp t => look l t
 | .const v => some v
 | .global g => some (.pointer (some ⟨g, 0, none⟩))
 | .func f => some (.func (.func f) #[] #[])
theorem look_cons {j t : Nat} {v : Value} {l : Slots} : look ((j, v) :: l) t = if j = t then some v else look l t := by
 show (bif Nat.beq j t then some v else look l t) = _
 by_cases h : j = t
 ·subst h; simp
 ·have : Nat.beq j t = false := by rw [Bool.eq_false_iff]; simpa using h
  rw [this, if_neg h]; rfl
theorem Fr.ev {e0 : Cfg} {l : Slots} {a : Act} (h : Fr e0 l a) {x : Operand} {v : Value} (e : E l x = some v) : a.eval x = v := by
 cases x with
 | tmp t =>
  have := h.slot t v e
  show a.tmps.getD t undef = v
  simp [Array.getD_eq_getD_getElem?, this]
 | const c => exact Option.some.inj e
 | global g => exact Option.some.inj e
 | func f => exact Option.some.inj e
theorem Fr.put {e0 : Cfg} {l : Slots} {a : Act} (h : Fr e0 l a) {d : Nat} (hd : Nat.blt d e0.n = true) (v : Value) : Fr e0 ((d, v) :: l) (a.put (some d) v) := by
 have hd' : d < e0.n := by simpa [Nat.blt_eq] using hd
 refine ⟨by simp [Act.put, h.size], h.defers, fun t u e => ?_⟩
 rw [look_cons] at e
 show (a.tmps.setIfInBounds d v)[t]? = some u
 rw [Array.getElem?_setIfInBounds]
 split at e
 ·rename_i hdt; subst hdt; rw [if_pos rfl, if_pos (by rw [h.size]; exact hd')]; exact e
 ·rename_i hdt; rw [if_neg hdt]; exact h.slot t u e
theorem Fr.sub {e0 : Cfg} {l l' : Slots} {a : Act} (h : Fr e0 l a) (hs : ∀ t v, look l' t = some v → look l t = some v) : Fr e0 l' a := ⟨h.size, h.defers, fun t v e => h.slot t v (hs t v e)⟩
def AllLook (l : Slots) : Slots → Prop
 | [] => True
 | (t, v) :: r => look l t = some v ∧ AllLook l r
theorem AllLook.sub {l : Slots} : ∀ {r : Slots}, AllLook l r → ∀ t v, look r t = some v → look l t = some v
 | [], _, t, v, e => by cases e
 | (j, u) :: r, h, t, v, e => by
  rw [look_cons] at e
  split at e
  ·rename_i hj; subst hj; rw [← Option.some.inj e]; exact h.1
  ·exact AllLook.sub h.2 t v e
def num : Nat → List Value → Slots
 | _, [] => []
 | k, v :: r => (k, v) :: num (k + 1) r
theorem look_num : ∀ (vs : List Value) (k t : Nat) (v : Value), look (num k vs) t = some v → k ≤ t ∧ vs[t - k]? = some v
 | [], k, t, v, h => by cases h
 | u :: r, k, t, v, h => by
  simp only [num] at h
  rw [look_cons] at h
  split at h
  ·rename_i hk; subst hk; simp [Option.some.inj h]
  ·rename_i hk
   obtain ⟨h1, h2⟩ := look_num r (k + 1) t v h
   refine ⟨by omega, ?_⟩
   have : t - k = (t - (k + 1)) + 1 := by omega
   rw [this]; simpa using h2
theorem Fr.start (n : Nat) (w : World) (lent : List Nat) (vs : List Value) (hn : Nat.ble vs.length n = true) : Fr ⟨n, [], w, lent⟩ (num 0 vs) { tmps := vs.toArray ++ Array.replicate (n - vs.toArray.size) undef, defers := [] } := by
 have hn' : vs.length ≤ n := by simpa using hn
 refine ⟨by simp; omega, rfl, fun t v h => ?_⟩
 obtain ⟨-, h2⟩ := look_num vs 0 t v h
 simp only [Nat.sub_zero] at h2
 have hl : t < vs.length := by
  rcases Nat.lt_or_ge t vs.length with h | h
  ·exact h
  ·rw [List.getElem?_eq_none h] at h2; cases h2
 show (vs.toArray ++ _)[t]? = some v
 rw [Array.getElem?_append_left (by simpa using hl)]
 simpa using h2
inductive Cont where
 | cells (cs : List Value)
 | map (es : List MapEntry) (clock : Nat)
abbrev Boxes := List (Nat × Cont)
abbrev Snaps := List (Nat × World)
structure Chg (bs : List Nat) (w w' : World) : Prop where
 os : w'.os = w.os
 tape : w'.tape = w.tape
 output : w'.output = w.output
 size : w.heap.size ≤ w'.heap.size
 block : ∀ k, k < w.heap.size → k ∉ bs → w'.heap[k]? = w.heap[k]?
theorem Chg.refl (bs : List Nat) (w : World) : Chg bs w w := ⟨rfl, rfl, rfl, Nat.le_refl _, fun _ _ _ => rfl⟩
theorem Chg.of_below {w w' : World} (bs : List Nat) (h : Below w.heap.size w w') : Chg bs w w' := ⟨h.os, h.tape, h.output, h.size, fun k hk _ => h.block k hk⟩
theorem Chg.below {w w' : World} (h : Chg [] w w') : Below w.heap.size w w' := ⟨h.os, h.tape, h.output, h.size, fun k hk => h.block k hk (by simp)⟩
structure BoxAt (w : World) (b : Nat) (c : Cont) : Prop where
 lt : b < w.heap.size
 cell : ∀ cs, c = .cells cs → ∀ k v, cs[k]? = some v → w.cell? ⟨b, k, none⟩ = some v ∧ w.frozen? ⟨b, k, none⟩ = false
 map : ∀ es k, c = .map es k → w.heap[b]? = some (.map es.toArray k)
theorem BoxAt.same {w w' : World} {b : Nat} {c : Cont} (h : BoxAt w b c) (hb : w'.heap[b]? = w.heap[b]?) (hz : w.heap.size ≤ w'.heap.size) : BoxAt w' b c :=
 ⟨Nat.lt_of_lt_of_le h.lt hz, fun cs hc k v hk => by
  obtain ⟨h1, h2⟩ := h.cell cs hc k v hk
  exact ⟨(World.cell?_of_block (w := w) (w' := w') (a := ⟨b, k, none⟩) hb).trans h1, (World.frozen?_of_block (w := w) (w' := w') (a := ⟨b, k, none⟩) hb).trans h2⟩, fun es k hc => hb.trans (h.map es k hc)⟩
structure Sta (E : Cfg) (U : Snaps) (L : Boxes) (w : World) : Prop where
 chg : Chg E.lent E.w w
 box : ∀ (i b : Nat) (cs : Cont), L[i]? = some (b, cs) → (E.w.heap.size ≤ b ∨ b ∈ E.lent) ∧ BoxAt w b cs
 apart : ∀ (i j b : Nat) (cs cs' : Cont), L[i]? = some (b, cs) → L[j]? = some (b, cs') → i = j
 snap : ∀ lo u, (lo, u) ∈ U → E.w.heap.size ≤ lo ∧ lo ≤ u.heap.size ∧ u.heap.size ≤ w.heap.size ∧ (∀ k, lo ≤ k → k < u.heap.size → w.heap[k]? = u.heap[k]?) ∧ (∀ k, k < E.w.heap.size → k ∉ E.lent → u.heap[k]? = E.w.heap[k]?) ∧ ∀ (i b : Nat) (cs : Cont), L[i]? = some (b, cs) → b < lo ∨ u.heap.size ≤ b
theorem Sta.below {n : Nat} {D : List Deferred} {w0 : World} {U : Snaps} {L : Boxes} {w : World} (h : Sta ⟨n, D, w0, []⟩ U L w) : Below w0.heap.size w0 w := h.chg.below
theorem Sta.start (n : Nat) (D : List Deferred) (w : World) : Sta ⟨n, D, w, []⟩ [] [] w := ⟨Chg.refl _ _, fun i b cs h => (by cases h), fun i j b cs cs' h => (by cases h), fun lo u h => (by cases h)⟩
theorem Sta.lend (n : Nat) (D : List Deferred) (w : World) (b : Nat) (cs : Cont) (h : BoxAt w b cs) : Sta ⟨n, D, w, [b]⟩ [] [(b, cs)] w := by
 refine ⟨Chg.refl _ _, fun i c ds hi => ?_, fun i j c ds ds' hi hj => ?_, fun lo u h => (by cases h)⟩
 ·cases i with
  | zero => simp only [List.getElem?_cons_zero, Option.some.injEq, Prod.mk.injEq] at hi; obtain ⟨rfl, rfl⟩ := hi; exact ⟨Or.inr (by simp), h⟩
  | succ i => simp at hi
 ·cases i with
  | zero => cases j with
   | zero => rfl
   | succ j => simp at hj
  | succ i => simp at hi
theorem Sta.defer {n : Nat} {D D' : List Deferred} {w0 : World} {bs : List Nat} {U : Snaps} {L : Boxes} {w : World} (h : Sta ⟨n, D, w0, bs⟩ U L w) (m : Nat) : Sta ⟨m, D', w0, bs⟩ U L w := ⟨h.chg, h.box, h.apart, h.snap⟩
section
variable {E : Cfg} {U : Snaps} {L : Boxes} {w : World}
theorem Sta.ext {w' : World} (h : Sta E U L w) (hb : Below w.heap.size w w') : Sta E U L w' := by
 have hz := h.chg.size
 refine ⟨⟨hb.os.trans h.chg.os, hb.tape.trans h.chg.tape, hb.output.trans h.chg.output, Nat.le_trans hz hb.size, fun k hk hn => (hb.block k (Nat.lt_of_lt_of_le hk hz)).trans (h.chg.block k hk hn)⟩, fun i b cs hi => ?_, h.apart, fun lo u hu => ?_⟩
 ·obtain ⟨h1, h2⟩ := h.box i b cs hi
  exact ⟨h1, h2.same (hb.block b h2.lt) hb.size⟩
 ·obtain ⟨h0, h1, h2, h3, h5, h4⟩ := h.snap lo u hu
  exact ⟨h0, h1, Nat.le_trans h2 hb.size, fun k hl hk => (hb.block k (Nat.lt_of_lt_of_le hk h2)).trans (h3 k hl hk), h5, h4⟩
theorem Sta.drew (h : Sta E U L w) : Sta E U L w.drew := h.ext (Below.refl _ _).drew
theorem Sta.call {w' : World} (h : Sta E U L w) (hb : Below w.heap.size w w') : Sta E ((w.heap.size, w') :: U) L w' := by
 have h' := h.ext hb
 refine ⟨h'.chg, h'.box, h'.apart, fun lo u hu => ?_⟩
 cases hu with
 | head => exact ⟨h.chg.size, hb.size, Nat.le_refl _, fun k _ hk => rfl, h'.chg.block, fun i b cs hi => Or.inl (h.box i b cs hi).2.lt⟩
 | tail _ hu => exact h'.snap lo u hu
theorem BoxAt.new (w : World) (cs : List Value) (t : TypeId) : BoxAt (w.alloc (.cells cs.toArray t)) w.heap.size (.cells cs) := by
 refine ⟨by simp, fun ds hd k v hk => ?_, fun es k hc => by cases hc⟩
 cases hd
 refine ⟨?_, ?_⟩
 ·rw [World.cell?_alloc_new]; simpa using hk
 ·simp
theorem getElem?_set_some {α : Type} {l : List α} {i j : Nat} {x y z : α} (hi : l[i]? = some x) (h : (l.set i y)[j]? = some z) : (i = j ∧ z = y) ∨ (i ≠ j ∧ l[j]? = some z) := by
 have hlt : i < l.length := by
  rcases Nat.lt_or_ge i l.length with h | h
  ·exact h
  ·rw [List.getElem?_eq_none h] at hi; cases hi
 rw [List.getElem?_set] at h
 split at h
 ·rename_i hij; subst hij; first | exact Or.inl ⟨rfl, (Option.some.inj h).symm⟩ | (rw [if_pos hlt] at h; exact Or.inl ⟨rfl, (Option.some.inj h).symm⟩)
 ·rename_i hij; exact Or.inr ⟨hij, h⟩
theorem Sta.adopt {w' : World} {b : Nat} {cs : Cont} (h : Sta E U L w) (hb : Below w.heap.size w w') (hlo : w.heap.size ≤ b) (hbox : BoxAt w' b cs) : Sta E U ((b, cs) :: L) w' := by
 have h' := h.ext hb
 have hz := h.chg.size
 refine ⟨h'.chg, fun i c ds hi => ?_, fun i j c ds ds' hi hj => ?_, fun lo u hu => ?_⟩
 ·cases i with
  | zero =>
   simp only [List.getElem?_cons_zero, Option.some.injEq, Prod.mk.injEq] at hi
   obtain ⟨rfl, rfl⟩ := hi
   exact ⟨Or.inl (Nat.le_trans hz hlo), hbox⟩
  | succ i => exact h'.box i c ds (by simpa using hi)
 ·cases i with
  | zero =>
   cases j with
   | zero => rfl
   | succ j =>
    simp only [List.getElem?_cons_zero, Option.some.injEq, Prod.mk.injEq] at hi
    have := (h.box j c ds' (by simpa using hj)).2.lt
    omega
  | succ i =>
   cases j with
   | zero =>
    simp only [List.getElem?_cons_zero, Option.some.injEq, Prod.mk.injEq] at hj
    have := (h.box i c ds (by simpa using hi)).2.lt
    omega
   | succ j => rw [h.apart i j c ds ds' (by simpa using hi) (by simpa using hj)]
 ·obtain ⟨h0, h1, h2, h3, h5, h4⟩ := h'.snap lo u hu
  obtain ⟨-, -, g2, -⟩ := h.snap lo u hu
  refine ⟨h0, h1, h2, h3, h5, fun i c ds hi => ?_⟩
  cases i with
  | zero =>
   simp only [List.getElem?_cons_zero, Option.some.injEq, Prod.mk.injEq] at hi
   exact Or.inr (by omega)
  | succ i => exact h4 i c ds (by simpa using hi)
theorem Sta.alloc (h : Sta E U L w) (cs : List Value) (t : TypeId) : Sta E U ((w.heap.size, .cells cs) :: L) (w.alloc (.cells cs.toArray t)) :=
 h.adopt ((Below.refl _ _).alloc (Nat.le_refl _) _) (Nat.le_refl _) (BoxAt.new w cs t)
theorem Sta.renew {w' : World} {i b b' : Nat} {cs cs' : Cont} (h : Sta E U L w) (hi : L[i]? = some (b, cs)) (hb : Below w.heap.size w w') (hlo : w.heap.size ≤ b') (hbox : BoxAt w' b' cs') : Sta E U (L.set i (b', cs')) w' := by
 have h' := h.ext hb
 have hz := h.chg.size
 refine ⟨h'.chg, fun j c ds hj => ?_, fun j j' c ds ds' hj hj' => ?_, fun lo u hu => ?_⟩
 ·rcases getElem?_set_some hi hj with ⟨rfl, e⟩ | ⟨hne, e⟩
  ·cases e; exact ⟨Or.inl (Nat.le_trans hz hlo), hbox⟩
  ·exact h'.box j c ds e
 ·rcases getElem?_set_some hi hj with ⟨rfl, e⟩ | ⟨hne, e⟩
  ·cases e
   rcases getElem?_set_some hi hj' with ⟨rfl, e'⟩ | ⟨hne', e'⟩
   ·rfl
   ·have := (h.box j' _ ds' e').2.lt; omega
  ·rcases getElem?_set_some hi hj' with ⟨rfl, e'⟩ | ⟨hne', e'⟩
   ·cases e'; have := (h.box j _ ds e).2.lt; omega
   ·exact h.apart j j' c ds ds' e e'
 ·obtain ⟨h0, h1, h2, h3, h5, h4⟩ := h'.snap lo u hu
  obtain ⟨-, -, g2, -⟩ := h.snap lo u hu
  refine ⟨h0, h1, h2, h3, h5, fun j c ds hj => ?_⟩
  rcases getElem?_set_some hi hj with ⟨rfl, e⟩ | ⟨hne, e⟩
  ·cases e; exact Or.inr (by omega)
  ·exact h4 j c ds e
theorem Sta.change {w' : World} {i b : Nat} {cs cs' : Cont} (h : Sta E U L w) (hi : L[i]? = some (b, cs)) (hc : Chg [b] w w') (hbox : BoxAt w' b cs') : Sta E U (L.set i (b, cs')) w' := by
 have hz := h.chg.size
 obtain ⟨g1, g2⟩ := h.box i b cs hi
 have hsame : ∀ j c ds, (L.set i (b, cs'))[j]? = some (c, ds) → ∃ ds', L[j]? = some (c, ds') := fun j c ds hj => by
  rcases getElem?_set_some hi hj with ⟨rfl, e⟩ | ⟨_, e⟩
  ·cases e; exact ⟨cs, hi⟩
  ·exact ⟨ds, e⟩
 refine ⟨⟨hc.os.trans h.chg.os, hc.tape.trans h.chg.tape, hc.output.trans h.chg.output, Nat.le_trans hz hc.size, fun k hk hn => ?_⟩, fun j c ds hj => ?_, fun j j' c ds ds' hj hj' => ?_, fun lo u hu => ?_⟩
 ·rw [hc.block k (Nat.lt_of_lt_of_le hk hz) (by
   intro hk'
   obtain rfl : k = b := by simpa using hk'
   rcases g1 with g | g
   ·omega
   ·exact hn g)]
  exact h.chg.block k hk hn
 ·rcases getElem?_set_some hi hj with ⟨rfl, e⟩ | ⟨hne, e⟩
  ·cases e; exact ⟨g1, hbox⟩
  ·obtain ⟨f1, f2⟩ := h.box j c ds e
   have hbc : b ≠ c := fun hbc => hne (by subst hbc; exact h.apart i j b cs ds hi e)
   exact ⟨f1, f2.same (hc.block c f2.lt (by simpa using fun e => hbc e.symm)) hc.size⟩
 ·obtain ⟨e, he⟩ := hsame j c ds hj
  obtain ⟨e', he'⟩ := hsame j' c ds' hj'
  exact h.apart j j' c e e' he he'
 ·obtain ⟨f0, f1, f2, f3, f5, f4⟩ := h.snap lo u hu
  refine ⟨f0, f1, Nat.le_trans f2 hc.size, fun m hl hm => ?_, f5, fun j c ds hj => ?_⟩
  ·rw [hc.block m (Nat.lt_of_lt_of_le hm f2) (by
    have := f4 i b cs hi
    simp only [List.mem_singleton]; omega)]
   exact f3 m hl hm
  ·obtain ⟨e, he⟩ := hsame j c ds hj
   exact f4 j c e he
theorem BoxAt.store {b k : Nat} {cs : List Value} (h : BoxAt w b (.cells cs)) (hk : k < cs.length) (v : Value) : BoxAt (w.setCell ⟨b, k, none⟩ v) b (.cells (cs.set k v)) := by
 refine ⟨by simpa using h.lt, fun ds hd m x hm => ?_, fun es k hc => by cases hc⟩
 cases hd
 rcases getElem?_set_some (List.getElem?_eq_getElem hk) hm with ⟨rfl, rfl⟩ | ⟨hkm, hm⟩
 ·obtain ⟨g4, g5⟩ := h.cell cs rfl k _ (List.getElem?_eq_getElem hk)
  exact ⟨World.cell?_setCell_same _ _ _ g4, by simpa using g5⟩
 ·obtain ⟨g4, g5⟩ := h.cell cs rfl m x hm
  exact ⟨by rw [World.cell?_setCell_other _ _ _ _ (by intro e; injection e; exact hkm (by assumption))]; exact g4, by simpa using g5⟩
theorem Sta.store (h : Sta E U L w) {i b : Nat} {cs : List Value} (hi : L[i]? = some (b, .cells cs)) (k : Nat) (hk : k < cs.length) (v : Value) : Sta E U (L.set i (b, .cells (cs.set k v))) (w.setCell ⟨b, k, none⟩ v) :=
 h.change hi ⟨rfl, rfl, rfl, by simp, fun m _ hm => Below.heap_setCell _ _ _ _ (by simpa using hm)⟩ ((h.box i b _ hi).2.store hk v)
theorem Sta.cell (h : Sta E U L w) {i b : Nat} {cs : List Value} (hi : L[i]? = some (b, .cells cs)) {k : Nat} {v : Value} (hk : cs[k]? = some v) : w.cell? ⟨b, k, none⟩ = some v := ((h.box i b _ hi).2.cell cs rfl k v hk).1
theorem Sta.free (h : Sta E U L w) {i b : Nat} {cs : List Value} (hi : L[i]? = some (b, .cells cs)) {k : Nat} {v : Value} (hk : cs[k]? = some v) : w.frozen? ⟨b, k, none⟩ = false := ((h.box i b _ hi).2.cell cs rfl k v hk).2
theorem Sta.map (h : Sta E U L w) {i b k : Nat} {es : List MapEntry} (hi : L[i]? = some (b, .map es k)) : w.heap[b]? = some (.map es.toArray k) := (h.box i b _ hi).2.map es k rfl
theorem Sta.old (h : Sta E U L w) {lo : Nat} {u : World} (hu : (lo, u) ∈ U) {k : Nat} (hk : lo ≤ k ∧ k < u.heap.size ∨ k < E.w.heap.size ∧ k ∉ E.lent) : w.heap[k]? = u.heap[k]? := by
 obtain ⟨f0, f1, f2, f3, f5, f4⟩ := h.snap lo u hu
 rcases hk with ⟨h1, h2⟩ | ⟨h1, h2⟩
 ·exact f3 k h1 h2
 ·rw [f5 k h1 h2]; exact h.chg.block k h1 h2
theorem Sta.tail (h : Sta E U L w) (m : Nat) {M : Boxes} (hM : L.drop m = M) : Sta E U M w := by
 subst hM
 have up : ∀ (i b : Nat) (cs : Cont), (L.drop m)[i]? = some (b, cs) → L[m + i]? = some (b, cs) := fun i b cs hi => by
  rwa [List.getElem?_drop] at hi
 refine ⟨h.chg, fun i b cs hi => h.box _ b cs (up i b cs hi), fun i j b cs cs' hi hj => ?_, fun lo u hu => ?_⟩
 ·have := h.apart _ _ b cs cs' (up i b cs hi) (up j b cs' hj); omega
 ·obtain ⟨f0, f1, f2, f3, f5, f4⟩ := h.snap lo u hu
  exact ⟨f0, f1, f2, f3, f5, fun i b cs hi => f4 _ b cs (up i b cs hi)⟩
theorem Sta.fewer (h : Sta E U L w) (k : Nat) {V : Snaps} (hV : U.drop k = V) : Sta E V L w :=
 ⟨h.chg, h.box, h.apart, fun lo u hu => h.snap lo u (by subst hV; exact List.mem_of_mem_drop hu)⟩
end
end
section
set_option autoImplicit false
open Go.RowKit
def AQ (e0 : Cfg) (U : Snaps) (l : Slots) (L : Boxes) (R : Act → World → Prop) : Prop := ∀ a w, Fr e0 l a → Sta e0 U L w → R a w
abbrev AL (P : Program) (ops : Array Oper) (Q : Exit → Act → World → Prop) (e0 : Cfg) (U : Snaps) (l : Slots) (L : Boxes) (rest : List Oper) : Prop := AQ e0 U l L (wpList P ops Q rest)
abbrev AC (P : Program) (e0 : Cfg) (U : Snaps) (l : Slots) (L : Boxes) (c : Code) (Q : Exit → Act → World → Prop) : Prop := AQ e0 U l L (Code.wp P c Q)
def want (ops : Array Oper) (l : Slots) : Option (Nat × Bool) → Option Bool
 | none => some true
 | some (j, b) => match (ops[j]?).bind (·.dst) with
  | some d => match look l d with
   | some (.bool c) => some (c == b)
   | some (.tuple _) => some false
   | _ => none
  | none => none
theorem want_ok {e0 : Cfg} {l : Slots} {a : Act} {ops : Array Oper} {o : Oper} {c : Bool} (h : Fr e0 l a) (e : want ops l o.guard = some c) : Region.wanted o (yielded ops a.tmps) = c := by
 unfold want at e
 unfold Region.wanted
 cases hg : o.guard with
 | none => rw [hg] at e; exact Option.some.inj e
 | some p =>
  obtain ⟨j, b⟩ := p
  rw [hg] at e
  dsimp only at e ⊢
  unfold yielded
  cases hd : (ops[j]?).bind (·.dst) with
  | none => rw [hd] at e; cases e
  | some d =>
   rw [hd] at e
   dsimp only [Option.bind] at e ⊢
   cases hs : look l d with
   | none => rw [hs] at e; cases e
   | some v =>
    rw [hs] at e
    rw [h.slot d v hs]
    cases v <;> (try (cases e; done))
    all_goals first
     | (rename_i x; have := Option.some.inj e; subst this; cases x <;> cases b <;> rfl)
     | (have := Option.some.inj e; subst this; cases b <;> rfl)
theorem addr_add (b o j : Nat) : (⟨b, o, none⟩ : Addr).add j = ⟨b, o + j, none⟩ := by
 unfold Addr.add; split
 ·rename_i h; subst h; rfl
 ·rfl
inductive Es (l : Slots) : List Operand → List Value → Prop
 | nil : Es l [] []
 | cons {x : Operand} {v : Value} {xs : List Operand} {vs : List Value} (h : E l x = some v) (t : Es l xs vs) : Es l (x :: xs) (v :: vs)
theorem Es.map {e0 : Cfg} {l : Slots} {a : Act} (hf : Fr e0 l a) {xs : List Operand} {vs : List Value} (h : Es l xs vs) : xs.map a.eval = vs := by
 induction h with
 | nil => rfl
 | cons hx _ ih => simp [hf.ev hx, ih]
inductive SetAt {α : Type} : Nat → α → List α → List α → Prop
 | z {x y : α} {l : List α} : SetAt 0 x (y :: l) (x :: l)
 | s {n : Nat} {x y : α} {l l' : List α} (h : SetAt n x l l') : SetAt (n + 1) x (y :: l) (y :: l')
theorem SetAt.eq {α : Type} {n : Nat} {x : α} {l l' : List α} (h : SetAt n x l l') : l' = l.set n x := by
 induction h with
 | z => rfl
 | s _ ih => rw [List.set_cons_succ, ← ih]
theorem SetAt.lt {α : Type} {n : Nat} {x : α} {l l' : List α} (h : SetAt n x l l') : n < l.length := by
 induction h with
 | z => simp
 | s _ ih => simpa using ih
inductive Drp {α : Type} : Nat → List α → List α → Prop
 | z {l : List α} : Drp 0 l l
 | s {n : Nat} {y : α} {l l' : List α} (h : Drp n l l') : Drp (n + 1) (y :: l) l'
theorem Drp.eq {α : Type} {n : Nat} {l l' : List α} (h : Drp n l l') : l' = l.drop n := by
 induction h with
 | z => rfl
 | s _ ih => rw [List.drop_succ_cons, ← ih]
inductive Tke {α : Type} : Nat → List α → List α → Prop
 | z {l : List α} : Tke 0 l []
 | s {n : Nat} {y : α} {l l' : List α} (h : Tke n l l') : Tke (n + 1) (y :: l) (y :: l')
theorem Tke.eq {α : Type} {n : Nat} {l l' : List α} (h : Tke n l l') : l' = l.take n ∧ l'.length = n := by
 induction h with
 | z => exact ⟨rfl, rfl⟩
 | s _ ih => exact ⟨by rw [List.take_succ_cons, ← ih.1], by simp [ih.2]⟩
inductive Ovr {α : Type} : List α → List α → List α → Prop
 | z {l : List α} : Ovr [] l l
 | s {x y : α} {vs l l' : List α} (h : Ovr vs l l') : Ovr (x :: vs) (y :: l) (x :: l')
theorem Ovr.eq {α : Type} {vs l l' : List α} (h : Ovr vs l l') : l' = vs ++ l.drop vs.length ∧ vs.length ≤ l.length := by
 induction h with
 | z => exact ⟨by simp, by simp⟩
 | s _ ih => exact ⟨by simp [← ih.1], by simpa using ih.2⟩
inductive Spl {α : Type} : Nat → List α → List α → List α → Prop
 | z {vs l l' : List α} (h : Ovr vs l l') : Spl 0 vs l l'
 | s {n : Nat} {y : α} {vs l l' : List α} (h : Spl n vs l l') : Spl (n + 1) vs (y :: l) (y :: l')
theorem Spl.eq {α : Type} {n : Nat} {vs l l' : List α} (h : Spl n vs l l') : l' = l.take n ++ vs ++ l.drop (n + vs.length) ∧ n + vs.length ≤ l.length := by
 induction h with
 | z h => obtain ⟨h1, h2⟩ := h.eq; exact ⟨by simpa using h1, by omega⟩
 | s _ ih =>
  refine ⟨?_, by simp; omega⟩
  rw [ih.1]
  simp [Nat.add_right_comm]
theorem SetAt.k0 {α : Type} {x y : α} {l : List α} : SetAt 0 x (y :: l) (x :: l) := .z
theorem Drp.k0 {α : Type} {l : List α} : Drp 0 (l) l := .z
theorem Tke.k0 {α : Type} {l : List α} : Tke 0 (l) [] := .z
theorem SetAt.k1 {α : Type} {a0 : α} {x y : α} {l : List α} : SetAt 1 x (a0 :: y :: l) (a0 :: x :: l) := .s (.z)
theorem Drp.k1 {α : Type} {a0 : α} {l : List α} : Drp 1 (a0 :: l) l := .s (.z)
theorem Tke.k1 {α : Type} {a0 : α} {l : List α} : Tke 1 (a0 :: l) [a0] := .s (.z)
theorem SetAt.k2 {α : Type} {a0 a1 : α} {x y : α} {l : List α} : SetAt 2 x (a0 :: a1 :: y :: l) (a0 :: a1 :: x :: l) := .s (.s (.z))
theorem Drp.k2 {α : Type} {a0 a1 : α} {l : List α} : Drp 2 (a0 :: a1 :: l) l := .s (.s (.z))
theorem Tke.k2 {α : Type} {a0 a1 : α} {l : List α} : Tke 2 (a0 :: a1 :: l) [a0, a1] := .s (.s (.z))
theorem SetAt.k3 {α : Type} {a0 a1 a2 : α} {x y : α} {l : List α} : SetAt 3 x (a0 :: a1 :: a2 :: y :: l) (a0 :: a1 :: a2 :: x :: l) := .s (.s (.s (.z)))
theorem Drp.k3 {α : Type} {a0 a1 a2 : α} {l : List α} : Drp 3 (a0 :: a1 :: a2 :: l) l := .s (.s (.s (.z)))
theorem Tke.k3 {α : Type} {a0 a1 a2 : α} {l : List α} : Tke 3 (a0 :: a1 :: a2 :: l) [a0, a1, a2] := .s (.s (.s (.z)))
theorem SetAt.k4 {α : Type} {a0 a1 a2 a3 : α} {x y : α} {l : List α} : SetAt 4 x (a0 :: a1 :: a2 :: a3 :: y :: l) (a0 :: a1 :: a2 :: a3 :: x :: l) := .s (.s (.s (.s (.z))))
theorem Drp.k4 {α : Type} {a0 a1 a2 a3 : α} {l : List α} : Drp 4 (a0 :: a1 :: a2 :: a3 :: l) l := .s (.s (.s (.s (.z))))
theorem Tke.k4 {α : Type} {a0 a1 a2 a3 : α} {l : List α} : Tke 4 (a0 :: a1 :: a2 :: a3 :: l) [a0, a1, a2, a3] := .s (.s (.s (.s (.z))))
theorem SetAt.k5 {α : Type} {a0 a1 a2 a3 a4 : α} {x y : α} {l : List α} : SetAt 5 x (a0 :: a1 :: a2 :: a3 :: a4 :: y :: l) (a0 :: a1 :: a2 :: a3 :: a4 :: x :: l) := .s (.s (.s (.s (.s (.z)))))
theorem Drp.k5 {α : Type} {a0 a1 a2 a3 a4 : α} {l : List α} : Drp 5 (a0 :: a1 :: a2 :: a3 :: a4 :: l) l := .s (.s (.s (.s (.s (.z)))))
theorem Tke.k5 {α : Type} {a0 a1 a2 a3 a4 : α} {l : List α} : Tke 5 (a0 :: a1 :: a2 :: a3 :: a4 :: l) [a0, a1, a2, a3, a4] := .s (.s (.s (.s (.s (.z)))))
theorem SetAt.k6 {α : Type} {a0 a1 a2 a3 a4 a5 : α} {x y : α} {l : List α} : SetAt 6 x (a0 :: a1 :: a2 :: a3 :: a4 :: a5 :: y :: l) (a0 :: a1 :: a2 :: a3 :: a4 :: a5 :: x :: l) := .s (.s (.s (.s (.s (.s (.z))))))
theorem Drp.k6 {α : Type} {a0 a1 a2 a3 a4 a5 : α} {l : List α} : Drp 6 (a0 :: a1 :: a2 :: a3 :: a4 :: a5 :: l) l := .s (.s (.s (.s (.s (.s (.z))))))
theorem Tke.k6 {α : Type} {a0 a1 a2 a3 a4 a5 : α} {l : List α} : Tke 6 (a0 :: a1 :: a2 :: a3 :: a4 :: a5 :: l) [a0, a1, a2, a3, a4, a5] := .s (.s (.s (.s (.s (.s (.z))))))
theorem SetAt.k7 {α : Type} {a0 a1 a2 a3 a4 a5 a6 : α} {x y : α} {l : List α} : SetAt 7 x (a0 :: a1 :: a2 :: a3 :: a4 :: a5 :: a6 :: y :: l) (a0 :: a1 :: a2 :: a3 :: a4 :: a5 :: a6 :: x :: l) := .s (.s (.s (.s (.s (.s (.s (.z)))))))
theorem Drp.k7 {α : Type} {a0 a1 a2 a3 a4 a5 a6 : α} {l : List α} : Drp 7 (a0 :: a1 :: a2 :: a3 :: a4 :: a5 :: a6 :: l) l := .s (.s (.s (.s (.s (.s (.s (.z)))))))
theorem Tke.k7 {α : Type} {a0 a1 a2 a3 a4 a5 a6 : α} {l : List α} : Tke 7 (a0 :: a1 :: a2 :: a3 :: a4 :: a5 :: a6 :: l) [a0, a1, a2, a3, a4, a5, a6] := .s (.s (.s (.s (.s (.s (.s (.z)))))))
theorem SetAt.k8 {α : Type} {a0 a1 a2 a3 a4 a5 a6 a7 : α} {x y : α} {l : List α} : SetAt 8 x (a0 :: a1 :: a2 :: a3 :: a4 :: a5 :: a6 :: a7 :: y :: l) (a0 :: a1 :: a2 :: a3 :: a4 :: a5 :: a6 :: a7 :: x :: l) := .s (.s (.s (.s (.s (.s (.s (.s (.z))))))))
theorem Drp.k8 {α : Type} {a0 a1 a2 a3 a4 a5 a6 a7 : α} {l : List α} : Drp 8 (a0 :: a1 :: a2 :: a3 :: a4 :: a5 :: a6 :: a7 :: l) l := .s (.s (.s (.s (.s (.s (.s (.s (.z))))))))
theorem Tke.k8 {α : Type} {a0 a1 a2 a3 a4 a5 a6 a7 : α} {l : List α} : Tke 8 (a0 :: a1 :: a2 :: a3 :: a4 :: a5 :: a6 :: a7 :: l) [a0, a1, a2, a3, a4, a5, a6, a7] := .s (.s (.s (.s (.s (.s (.s (.s (.z))))))))
theorem SetAt.k9 {α : Type} {a0 a1 a2 a3 a4 a5 a6 a7 a8 : α} {x y : α} {l : List α} : SetAt 9 x (a0 :: a1 :: a2 :: a3 :: a4 :: a5 :: a6 :: a7 :: a8 :: y :: l) (a0 :: a1 :: a2 :: a3 :: a4 :: a5 :: a6 :: a7 :: a8 :: x :: l) := .s (.s (.s (.s (.s (.s (.s (.s (.s (.z)))))))))
theorem Drp.k9 {α : Type} {a0 a1 a2 a3 a4 a5 a6 a7 a8 : α} {l : List α} : Drp 9 (a0 :: a1 :: a2 :: a3 :: a4 :: a5 :: a6 :: a7 :: a8 :: l) l := .s (.s (.s (.s (.s (.s (.s (.s (.s (.z)))))))))
theorem Tke.k9 {α : Type} {a0 a1 a2 a3 a4 a5 a6 a7 a8 : α} {l : List α} : Tke 9 (a0 :: a1 :: a2 :: a3 :: a4 :: a5 :: a6 :: a7 :: a8 :: l) [a0, a1, a2, a3, a4, a5, a6, a7, a8] := .s (.s (.s (.s (.s (.s (.s (.s (.s (.z)))))))))
theorem SetAt.k10 {α : Type} {a0 a1 a2 a3 a4 a5 a6 a7 a8 a9 : α} {x y : α} {l : List α} : SetAt 10 x (a0 :: a1 :: a2 :: a3 :: a4 :: a5 :: a6 :: a7 :: a8 :: a9 :: y :: l) (a0 :: a1 :: a2 :: a3 :: a4 :: a5 :: a6 :: a7 :: a8 :: a9 :: x :: l) := .s (.s (.s (.s (.s (.s (.s (.s (.s (.s (.z))))))))))
theorem Drp.k10 {α : Type} {a0 a1 a2 a3 a4 a5 a6 a7 a8 a9 : α} {l : List α} : Drp 10 (a0 :: a1 :: a2 :: a3 :: a4 :: a5 :: a6 :: a7 :: a8 :: a9 :: l) l := .s (.s (.s (.s (.s (.s (.s (.s (.s (.s (.z))))))))))
theorem Tke.k10 {α : Type} {a0 a1 a2 a3 a4 a5 a6 a7 a8 a9 : α} {l : List α} : Tke 10 (a0 :: a1 :: a2 :: a3 :: a4 :: a5 :: a6 :: a7 :: a8 :: a9 :: l) [a0, a1, a2, a3, a4, a5, a6, a7, a8, a9] := .s (.s (.s (.s (.s (.s (.s (.s (.s (.s (.z))))))))))
section
variable {P : Program} {e0 : Cfg} {U : Snaps} {l : Slots} {L : Boxes} {ops : Array Oper} {Q : Exit → Act → World → Prop} {rest : List Oper} {o : Oper} {d : Nat} {v : Value}
def Q1 (P : Program) (e0 : Cfg) (U : Snaps) (l : Slots) (L : Boxes) (o : Oper) (v : Value) : Prop := ∀ a w, Fr e0 l a → Sta e0 U L w → (execOp a.eval o).run P w = .ok (.value v) w
theorem al_q (q : Q1 P e0 U l L o v) (hd : o.dst = some d) (hn : Nat.blt d e0.n = true) (hw : want ops l o.guard = some true) (k : AL P ops Q e0 U ((d, v) :: l) L rest) : AL P ops Q e0 U l L (o :: rest) := by
 intro a w hf hs
 unfold wpList
 rw [if_pos (want_ok hf hw)]
 refine Or.inl ?_
 unfold Oper.wp
 rw [q a w hf hs]
 show wpList P ops Q rest (a.put o.dst v) w
 rw [hd]
 exact k _ _ (hf.put hn v) hs
theorem al_p {op : Op} {ty : TypeId} {pos : String} {af : Array Edge} {g : Option (Nat × Bool)} (q : Q1 P e0 U l L ⟨some d, op, ty, pos, af, g⟩ v) (k : AL P ops Q e0 U ((d, v) :: l) L rest) (hn : Nat.blt d e0.n = true := by rfl) (hw : want ops l g = some true := by rfl) : AL P ops Q e0 U l L (⟨some d, op, ty, pos, af, g⟩ :: rest) := al_q q rfl hn hw k
theorem al_skip (hw : want ops l o.guard = some false) (hd : o.dst = some d) (hn : Nat.blt d e0.n = true) (k : AL P ops Q e0 U ((d, undef) :: l) L rest) : AL P ops Q e0 U l L (o :: rest) := by
 intro a w hf hs
 unfold wpList
 rw [if_neg (by rw [want_ok hf hw]; decide), hd]
 exact k _ _ (hf.put hn undef) hs
theorem aq_split {R : Act → World → Prop} (d : Nat) {b : Bool} (hs : look l d = some (.bool b)) (kt : b = true → AQ e0 U ((d, .bool true) :: l) L R) (kf : b = false → AQ e0 U ((d, .bool false) :: l) L R) : AQ e0 U l L R := by
 intro a w hf hst
 have key : ∀ c, b = c → Fr e0 ((d, .bool c) :: l) a := fun c hc => hf.sub (fun t u e => by
  rw [look_cons] at e
  split at e
  ·rename_i hd; subst hd; rw [hs, hc]; exact e
  ·exact e)
 cases hb : b
 ·exact kf hb a w (key false hb) hst
 ·exact kt hb a w (key true hb) hst
theorem aq_keep {R : Act → World → Prop} (l' : Slots) (h : AllLook l l') (k : AQ e0 U l' L R) : AQ e0 U l L R := fun a w hf hs => k a w (hf.sub h.sub) hs
inductive LookAll (l : Slots) : List Nat → Slots → Prop
 | nil : LookAll l [] []
 | cons {t : Nat} {v : Value} {ts : List Nat} {r : Slots} (h : look l t = some v) (k : LookAll l ts r) : LookAll l (t :: ts) ((t, v) :: r)
theorem LookAll.all {ts : List Nat} {r : Slots} (h : LookAll l ts r) : AllLook l r := by
 induction h with
 | nil => trivial
 | cons h _ ih => exact ⟨h, ih⟩
theorem aq_keepL {R : Act → World → Prop} (ts : List Nat) {r : Slots} (h : LookAll l ts r) (k : AQ e0 U r L R) : AQ e0 U l L R := aq_keep r h.all k
inductive Boxen : Boxes → List Bool → Boxes → Prop
 | nil : Boxen [] [] []
 | keep {x : Nat × Cont} {L M : Boxes} {bs : List Bool} (h : Boxen L bs M) : Boxen (x :: L) (true :: bs) (x :: M)
 | drop {x : Nat × Cont} {L M : Boxes} {bs : List Bool} (h : Boxen L bs M) : Boxen (x :: L) (false :: bs) M
theorem Boxen.at {L M : Boxes} {bs : List Bool} (h : Boxen L bs M) : ∃ f : Nat → Nat, (∀ i x, M[i]? = some x → L[f i]? = some x) ∧ ∀ i j, f i = f j → i = j := by
 induction h with
 | nil => exact ⟨id, fun i x h => h, fun i j h => h⟩
 | keep h ih =>
  obtain ⟨f, h1, h2⟩ := ih
  refine ⟨fun i => match i with | 0 => 0 | i + 1 => f i + 1, fun i x hx => ?_, fun i j hij => ?_⟩
  ·cases i with
   | zero => simpa using hx
   | succ i => simpa using h1 i x (by simpa using hx)
  ·cases i with
   | zero => cases j with
    | zero => rfl
    | succ j => simp at hij
   | succ i => cases j with
    | zero => simp at hij
    | succ j => rw [h2 i j (by simpa using hij)]
 | drop h ih =>
  obtain ⟨f, h1, h2⟩ := ih
  exact ⟨fun i => f i + 1, fun i x hx => by simpa using h1 i x hx, fun i j hij => h2 i j (by simpa using hij)⟩
theorem Sta.sift {M : Boxes} {bs : List Bool} {w : World} (h : Sta e0 U L w) (hb : Boxen L bs M) : Sta e0 U M w := by
 obtain ⟨f, h1, h2⟩ := hb.at
 exact ⟨h.chg, fun i b cs hi => h.box _ b cs (h1 i _ hi), fun i j b cs cs' hi hj => h2 i j (h.apart _ _ b cs cs' (h1 i _ hi) (h1 j _ hj)), fun lo u hu => by
  obtain ⟨f0, f1, f2, f3, f5, f4⟩ := h.snap lo u hu
  exact ⟨f0, f1, f2, f3, f5, fun i b cs hi => f4 _ b cs (h1 i _ hi)⟩⟩
inductive Picks (L : Boxes) : List Nat → Boxes → Prop
 | nil : Picks L [] []
 | cons {j : Nat} {js : List Nat} {x : Nat × Cont} {M : Boxes} (h : L[j]? = some x) (t : Picks L js M) : Picks L (j :: js) (x :: M)
theorem Picks.at {M : Boxes} {js : List Nat} (h : Picks L js M) : ∀ (i : Nat) (x : Nat × Cont), M[i]? = some x → ∃ j : Nat, js[i]? = some j ∧ L[j]? = some x := by
 induction h with
 | nil => intro i x h; simp at h
 | cons h t ih =>
  intro i x hx
  cases i with
  | zero => exact ⟨_, rfl, by rw [h]; simpa using hx⟩
  | succ i => exact ih i x (by simpa using hx)
theorem Sta.pick {M : Boxes} {js : List Nat} {w : World} (h : Sta e0 U L w) (hb : Picks L js M) (hnd : js.Nodup) : Sta e0 U M w := by
 have g := hb.at
 refine ⟨h.chg, fun i b cs hi => ?_, fun i j b cs cs' hi hj => ?_, fun lo u hu => ?_⟩
 ·obtain ⟨j, -, hj⟩ := g i _ hi; exact h.box j b cs hj
 ·obtain ⟨i', hi1, hi2⟩ := g i _ hi
  obtain ⟨j', hj1, hj2⟩ := g j _ hj
  obtain rfl := h.apart i' j' b cs cs' hi2 hj2
  exact (List.getElem?_inj (List.getElem?_eq_some_iff.1 hi1).1 hnd).1 (hi1.trans hj1.symm)
 ·obtain ⟨f0, f1, f2, f3, f5, f4⟩ := h.snap lo u hu
  exact ⟨f0, f1, f2, f3, f5, fun i b cs hi => by obtain ⟨j, -, hj⟩ := g i _ hi; exact f4 j b cs hj⟩
abbrev Own (w : World) (L : Boxes) (w' : World) : Prop := Sta ⟨0, [], w, []⟩ [] L w'
theorem Sta.own {n : Nat} {D : List Deferred} {w w' : World} {M : Boxes} {js : List Nat} (h : Sta ⟨n, D, w, []⟩ U L w') (hb : Picks L js M) (hnd : js.Nodup) : Own w M w' :=
 ((h.fewer U.length (by simp)).pick hb hnd).defer 0
theorem Sta.gift {n : Nat} {D : List Deferred} {V : Snaps} {M : Boxes} {w w' : World} (h : Sta e0 U L w) (g : Sta ⟨n, D, w, []⟩ V M w') : Sta e0 U (M ++ L) w' := by
 have h' := h.ext g.below
 have hz := h.chg.size
 have new : ∀ i b cs, M[i]? = some (b, cs) → w.heap.size ≤ b := fun i b cs hi => by
  rcases (g.box i b cs hi).1 with k | k
  ·exact k
  ·cases k
 have at' : ∀ (i b : Nat) (cs : Cont), (M ++ L)[i]? = some (b, cs) → (i < M.length ∧ M[i]? = some (b, cs)) ∨ (M.length ≤ i ∧ L[i - M.length]? = some (b, cs)) := fun i b cs hi => by
  rw [List.getElem?_append] at hi
  split at hi
  ·exact Or.inl ⟨by assumption, hi⟩
  ·exact Or.inr ⟨by omega, hi⟩
 refine ⟨h'.chg, fun i b cs hi => ?_, fun i j b cs cs' hi hj => ?_, fun lo u hu => ?_⟩
 ·rcases at' i b cs hi with ⟨-, k⟩ | ⟨-, k⟩
  ·exact ⟨Or.inl (Nat.le_trans hz (new i b cs k)), (g.box i b cs k).2⟩
  ·exact h'.box _ b cs k
 ·rcases at' i b cs hi with ⟨hi1, k⟩ | ⟨hi1, k⟩
  ·rcases at' j b cs' hj with ⟨hj1, k'⟩ | ⟨hj1, k'⟩
   ·exact g.apart i j b cs cs' k k'
   ·have := new i b cs k; have := (h.box _ b cs' k').2.lt; omega
  ·rcases at' j b cs' hj with ⟨hj1, k'⟩ | ⟨hj1, k'⟩
   ·have := new j b cs' k'; have := (h.box _ b cs k).2.lt; omega
   ·have := h.apart _ _ b cs cs' k k'; omega
 ·obtain ⟨f0, f1, f2, f3, f5, f4⟩ := h'.snap lo u hu
  obtain ⟨-, -, g2, -⟩ := h.snap lo u hu
  refine ⟨f0, f1, f2, f3, f5, fun i b cs hi => ?_⟩
  rcases at' i b cs hi with ⟨-, k⟩ | ⟨-, k⟩
  ·have := new i b cs k; exact Or.inr (by omega)
  ·exact f4 _ b cs k
theorem aq_keepB {R : Act → World → Prop} {M : Boxes} {bs : List Bool} (hb : Boxen L bs M) (k : AQ e0 U l M R) : AQ e0 U l L R := fun a w hf hs => k a w hf (hs.sift hb)
theorem q_move {x : Operand} {ty : TypeId} {pos : String} {af : Array Edge} {g : Option (Nat × Bool)} {dd : Option Nat} (hx : E l x = some v) : Q1 P e0 U l L ⟨dd, .move x, ty, pos, af, g⟩ v := by
 intro a w hf hs
 simp only [execOp, hf.ev hx]; rfl
theorem q_assign {x : Operand} {ty : TypeId} {pos : String} {af : Array Edge} {g : Option (Nat × Bool)} {dd : Option Nat} (hx : E l x = some v) : Q1 P e0 U l L ⟨dd, .assign x, ty, pos, af, g⟩ v := by
 intro a w hf hs
 simp only [execOp, hf.ev hx]; rfl
theorem q_pickT {c x y : Operand} {ty : TypeId} {pos : String} {af : Array Edge} {g : Option (Nat × Bool)} {dd : Option Nat} (hc : E l c = some (.bool true)) (hx : E l x = some v) : Q1 P e0 U l L ⟨dd, .pick c x y, ty, pos, af, g⟩ v := by
 intro a w hf hs
 simp only [execOp, hf.ev hc, hf.ev hx, asBool]; rfl
theorem q_pickF {c x y : Operand} {ty : TypeId} {pos : String} {af : Array Edge} {g : Option (Nat × Bool)} {dd : Option Nat} (hc : E l c = some (.bool false)) (hy : E l y = some v) : Q1 P e0 U l L ⟨dd, .pick c x y, ty, pos, af, g⟩ v := by
 intro a w hf hs
 simp only [execOp, hf.ev hc, hf.ev hy, asBool]; rfl
theorem q_add {xt yt : TypeId} {ox oy : Operand} {x y : Int} {ty : TypeId} {pos : String} {af : Array Edge} {g : Option (Nat × Bool)} {dd : Option Nat} (hx : E l ox = some (.int .i64 x)) (hy : E l oy = some (.int .i64 y)) (hb : -9223372036854775808 ≤ x + y ∧ x + y ≤ 9223372036854775807) : Q1 P e0 U l L ⟨dd, .binOp .add xt ox oy yt, ty, pos, af, g⟩ (.int .i64 (x + y)) := by
 intro a w hf hs
 have hwr : IntKind.i64.wrap (x + y) = x + y := IntWalk.i64_in _ hb
 simp [execOp, hf.ev hx, hf.ev hy, eqGuard, binOp, Op.intArith, hwr, Bind.bind, Sem.bind, Sem.run, pure]
theorem q_sub {xt yt : TypeId} {ox oy : Operand} {x y : Int} {ty : TypeId} {pos : String} {af : Array Edge} {g : Option (Nat × Bool)} {dd : Option Nat} (hx : E l ox = some (.int .i64 x)) (hy : E l oy = some (.int .i64 y)) (hb : -9223372036854775808 ≤ x - y ∧ x - y ≤ 9223372036854775807) : Q1 P e0 U l L ⟨dd, .binOp .sub xt ox oy yt, ty, pos, af, g⟩ (.int .i64 (x - y)) := by
 intro a w hf hs
 have hwr : IntKind.i64.wrap (x - y) = x - y := IntWalk.i64_in _ hb
 simp [execOp, hf.ev hx, hf.ev hy, eqGuard, binOp, Op.intArith, hwr, Bind.bind, Sem.bind, Sem.run, pure]
theorem q_mul {xt yt : TypeId} {ox oy : Operand} {x y : Int} {ty : TypeId} {pos : String} {af : Array Edge} {g : Option (Nat × Bool)} {dd : Option Nat} (hx : E l ox = some (.int .i64 x)) (hy : E l oy = some (.int .i64 y)) (hb : -9223372036854775808 ≤ x * y ∧ x * y ≤ 9223372036854775807) : Q1 P e0 U l L ⟨dd, .binOp .mul xt ox oy yt, ty, pos, af, g⟩ (.int .i64 (x * y)) := by
 intro a w hf hs
 have hwr : IntKind.i64.wrap (x * y) = x * y := IntWalk.i64_in _ hb
 simp [execOp, hf.ev hx, hf.ev hy, eqGuard, binOp, Op.intArith, hwr, Bind.bind, Sem.bind, Sem.run, pure]
theorem q_lss {xt yt : TypeId} {k : IntKind} {ox oy : Operand} {x y : Int} {ty : TypeId} {pos : String} {af : Array Edge} {g : Option (Nat × Bool)} {dd : Option Nat} (hx : E l ox = some (.int k x)) (hy : E l oy = some (.int k y)) : Q1 P e0 U l L ⟨dd, .binOp .lss xt ox oy yt, ty, pos, af, g⟩ (.bool (decide (x < y))) := by
 intro a w hf hs
 simp [execOp, hf.ev hx, hf.ev hy, eqGuard, binOp, Op.intCmp, Bind.bind, Sem.bind, Sem.run, pure]
theorem q_leq {xt yt : TypeId} {k : IntKind} {ox oy : Operand} {x y : Int} {ty : TypeId} {pos : String} {af : Array Edge} {g : Option (Nat × Bool)} {dd : Option Nat} (hx : E l ox = some (.int k x)) (hy : E l oy = some (.int k y)) : Q1 P e0 U l L ⟨dd, .binOp .leq xt ox oy yt, ty, pos, af, g⟩ (.bool (decide (x ≤ y))) := by
 intro a w hf hs
 simp [execOp, hf.ev hx, hf.ev hy, eqGuard, binOp, Op.intCmp, Bind.bind, Sem.bind, Sem.run, pure]
theorem q_gtr {xt yt : TypeId} {k : IntKind} {ox oy : Operand} {x y : Int} {ty : TypeId} {pos : String} {af : Array Edge} {g : Option (Nat × Bool)} {dd : Option Nat} (hx : E l ox = some (.int k x)) (hy : E l oy = some (.int k y)) : Q1 P e0 U l L ⟨dd, .binOp .gtr xt ox oy yt, ty, pos, af, g⟩ (.bool (decide (x > y))) := by
 intro a w hf hs
 simp [execOp, hf.ev hx, hf.ev hy, eqGuard, binOp, Op.intCmp, Bind.bind, Sem.bind, Sem.run, pure]
theorem q_geq {xt yt : TypeId} {k : IntKind} {ox oy : Operand} {x y : Int} {ty : TypeId} {pos : String} {af : Array Edge} {g : Option (Nat × Bool)} {dd : Option Nat} (hx : E l ox = some (.int k x)) (hy : E l oy = some (.int k y)) : Q1 P e0 U l L ⟨dd, .binOp .geq xt ox oy yt, ty, pos, af, g⟩ (.bool (decide (x ≥ y))) := by
 intro a w hf hs
 simp [execOp, hf.ev hx, hf.ev hy, eqGuard, binOp, Op.intCmp, Bind.bind, Sem.bind, Sem.run, pure]
theorem q_eql {xt yt : TypeId} {k : IntKind} {ox oy : Operand} {x y : Int} {ty : TypeId} {pos : String} {af : Array Edge} {g : Option (Nat × Bool)} {dd : Option Nat} (hx : E l ox = some (.int k x)) (hy : E l oy = some (.int k y)) : Q1 P e0 U l L ⟨dd, .binOp .eql xt ox oy yt, ty, pos, af, g⟩ (.bool (x == y)) := by
 intro a w hf hs
 simp [execOp, hf.ev hx, hf.ev hy, eqGuard, binOp, Op.intCmp, Bind.bind, Sem.bind, Sem.run, pure]
theorem q_neq {xt yt : TypeId} {k : IntKind} {ox oy : Operand} {x y : Int} {ty : TypeId} {pos : String} {af : Array Edge} {g : Option (Nat × Bool)} {dd : Option Nat} (hx : E l ox = some (.int k x)) (hy : E l oy = some (.int k y)) : Q1 P e0 U l L ⟨dd, .binOp .neq xt ox oy yt, ty, pos, af, g⟩ (.bool (x != y)) := by
 intro a w hf hs
 simp [execOp, hf.ev hx, hf.ev hy, eqGuard, binOp, Op.intCmp, Bind.bind, Sem.bind, Sem.run, pure]
theorem q_not {xt : TypeId} {ox : Operand} {x : Bool} {ty : TypeId} {pos : String} {af : Array Edge} {g : Option (Nat × Bool)} {dd : Option Nat} (hx : E l ox = some (.bool x)) : Q1 P e0 U l L ⟨dd, .unOp .not xt ox, ty, pos, af, g⟩ (.bool (!x)) := by
 intro a w hf hs
 simp [execOp, hf.ev hx, Op.unary]
theorem q_lenS {st e : TypeId} {ox : Operand} {p : Option Addr} {m c : Nat} {ty : TypeId} {pos : String} {af : Array Edge} {g : Option (Nat × Bool)} {dd : Option Nat} (hx : E l ox = some (.slice p m c)) (hu : ∀ w, (underlying st).run P w = .ok (.slice e) w) : Q1 P e0 U l L ⟨dd, .call ⟨.builtin .len, #[ox], #[st]⟩, ty, pos, af, g⟩ (.int .i64 (m : Int)) := by
 intro a w hf hs
 simp [execOp, resolve, invoke, builtin, hf.ev hx, Builtin.len_, goInt, hu]
def nth : List Value → Nat → Option Value
 | [], _ => none
 | v :: _, 0 => some v
 | _ :: r, i + 1 => nth r i
theorem nth_eq : ∀ (l : List Value) (i : Nat), nth l i = l[i]?
 | [], _ => rfl
 | _ :: _, 0 => rfl
 | _ :: r, i + 1 => by simp only [nth, List.getElem?_cons_succ]; exact nth_eq r i
theorem q_extract {i : Nat} {ox : Operand} {vs : List Value} {ty : TypeId} {pos : String} {af : Array Edge} {g : Option (Nat × Bool)} {dd : Option Nat} (hx : E l ox = some (.tuple vs.toArray)) (hi : nth vs i = some v) : Q1 P e0 U l L ⟨dd, .extract ox i, ty, pos, af, g⟩ v := by
 intro a w hf hs
 have hi' : vs.toArray[i]? = some v := by rw [← hi, nth_eq]; simp
 simp only [execOp, hf.ev hx, Instr.extract, hi', Bind.bind, Sem.bind, Sem.run, pure]
theorem q_fieldAddr {s f b o z : Nat} {fs : Array Field} {fd : Field} (o' : Nat) {ox : Operand} {ty : TypeId} {pos : String} {af : Array Edge} {g : Option (Nat × Bool)} {dd : Option Nat} (hx : E l ox = some (.pointer (some ⟨b, o, none⟩))) (hu : ∀ w, (underlying s).run P w = .ok (.struct fs) w) (hff : fs[f]? = some fd) (hz : ∀ w, (sizeOf fd.type).run P w = .ok z w) (hz0 : z ≠ 0) (ho : o + fd.offset = o') : Q1 P e0 U l L ⟨dd, .fieldAddr s ox f, ty, pos, af, g⟩ (.pointer (some ⟨b, o', none⟩)) := by
 intro a w hf hs
 have ha : (⟨b, o, none⟩ : Addr).add fd.offset = ⟨b, o', none⟩ := by
  unfold Addr.add; split
  ·rename_i h; rw [h] at ho; subst ho; rfl
  ·subst ho; rfl
 simp [execOp, hf.ev hx, Instr.fieldAt, Instr.sureAddr, fieldPlace, hu, hz, hz0, hff, ha]
theorem q_indexAddr {s e b o i len cap z : Nat} {ii : Int} {k : IntKind} (o' : Nat) {ox oi : Operand} {ty : TypeId} {pos : String} {af : Array Edge} {g : Option (Nat × Bool)} {dd : Option Nat} (hx : E l ox = some (.slice (some ⟨b, o, none⟩) len cap)) (hi : E l oi = some (.int k ii)) (hii : ii = (i : Int)) (hil : i < len) (hu : ∀ w, (underlying s).run P w = .ok (.slice e) w) (hz : ∀ w, (sizeOf e).run P w = .ok z w) (ho : o + i * z = o') : Q1 P e0 U l L ⟨dd, .indexAddr s ox oi, ty, pos, af, g⟩ (.pointer (some ⟨b, o', none⟩)) := by
 intro a w hf hs
 have ha : (⟨b, o, none⟩ : Addr).add (i * z) = ⟨b, o', none⟩ := by
  unfold Addr.add; split
  ·rename_i h; rw [h] at ho; subst ho; rfl
  ·subst ho; rfl
 subst hii
 have h0 : (0 : Int) ≤ (i : Int) ∧ (i : Int) < (len : Int) := ⟨by omega, by omega⟩
 simp [execOp, hf.ev hx, hf.ev hi, Instr.indexAt, asIntOf, hu, hz, h0, ha, hil]
theorem q_indexAddrA {s e b o i len cap z : Nat} {ii : Int} {k : IntKind} {A : Option Addr} (o' : Nat) {ox oi : Operand} {ty : TypeId} {pos : String} {af : Array Edge} {g : Option (Nat × Bool)} {dd : Option Nat} (hA : A = some ⟨b, o, none⟩) (hx : E l ox = some (.slice A len cap)) (hi : E l oi = some (.int k ii)) (hii : ii = (i : Int)) (hil : i < len) (hu : ∀ w, (underlying s).run P w = .ok (.slice e) w) (hz : ∀ w, (sizeOf e).run P w = .ok z w) (ho : o + i * z = o') : Q1 P e0 U l L ⟨dd, .indexAddr s ox oi, ty, pos, af, g⟩ (.pointer (some ⟨b, o', none⟩)) :=
 q_indexAddr o' (hA ▸ hx) hi hii hil hu hz ho
theorem q_load {t b o i : Nat} {cs : List Value} {ox : Operand} {ty : TypeId} {pos : String} {af : Array Edge} {g : Option (Nat × Bool)} {dd : Option Nat} (hx : E l ox = some (.pointer (some ⟨b, o, none⟩))) (hi : L[i]? = some (b, .cells cs)) (hv : cs[o]? = some v) (hg : ∀ w, (isAgg t).run P w = .ok false w) : Q1 P e0 U l L ⟨dd, .load t ox, ty, pos, af, g⟩ v := by
 intro a w hf hs
 simp [execOp, hf.ev hx, Instr.loadAt, Instr.sureAddr, loadVar, hg, hs.cell hi hv]
theorem q_loadAll {t b z i : Nat} {cs : List Value} {ox : Operand} {ty : TypeId} {pos : String} {af : Array Edge} {g : Option (Nat × Bool)} {dd : Option Nat} (hx : E l ox = some (.pointer (some ⟨b, 0, none⟩))) (hi : L[i]? = some (b, .cells cs)) (hg : ∀ w, (isAgg t).run P w = .ok true w) (hz : ∀ w, (sizeOf t).run P w = .ok z w) (hn : z = cs.length) : Q1 P e0 U l L ⟨dd, .load t ox, ty, pos, af, g⟩ (.agg cs.toArray) := by
 intro a w hf hs
 have hc := run_loadCells_list (P := P) (w := w) ⟨b, 0, none⟩ cs (fun j u hj => by
  rw [addr_add, Nat.zero_add]; exact hs.cell hi hj)
 simp [execOp, hf.ev hx, Instr.loadAt, Instr.sureAddr, loadVar, hg, hz, hc, hn]
theorem q_loadSub {t b o z i : Nat} {cs ds vs : List Value} {ox : Operand} {ty : TypeId} {pos : String} {af : Array Edge} {g : Option (Nat × Bool)} {dd : Option Nat} (hx : E l ox = some (.pointer (some ⟨b, o, none⟩))) (hi : L[i]? = some (b, .cells cs)) (hg : ∀ w, (isAgg t).run P w = .ok true w) (hz : ∀ w, (sizeOf t).run P w = .ok z w) (h1 : Drp o cs ds) (h2 : Tke z ds vs) : Q1 P e0 U l L ⟨dd, .load t ox, ty, pos, af, g⟩ (.agg vs.toArray) := by
 intro a w hf hs
 have hv : vs = (cs.drop o).take z := by rw [h2.eq.1, h1.eq]
 have hn : z = vs.length := h2.eq.2.symm
 have hc := run_loadCells_list (P := P) (w := w) ⟨b, o, none⟩ vs (fun j u hj => by
  rw [addr_add]
  refine hs.cell hi ?_
  have hj' : j < z := by
   rcases Nat.lt_or_ge j z with h | h
   ·exact h
   ·rw [List.getElem?_eq_none (by omega)] at hj; cases hj
  rw [hv, List.getElem?_take, if_pos hj', List.getElem?_drop] at hj
  exact hj)
 simp [execOp, hf.ev hx, Instr.loadAt, Instr.sureAddr, loadVar, hg, hz, hc, hn]
theorem q_loadX {t : Nat} {p : Addr} {ox : Operand} {ty : TypeId} {pos : String} {af : Array Edge} {g : Option (Nat × Bool)} {dd : Option Nat} (hx : E l ox = some (.pointer (some p))) (hg : ∀ w, (isAgg t).run P w = .ok false w) (hv : ∀ w, Sta e0 U L w → w.cell? p = some v) : Q1 P e0 U l L ⟨dd, .load t ox, ty, pos, af, g⟩ v := by
 intro a w hf hs
 simp [execOp, hf.ev hx, Instr.loadAt, Instr.sureAddr, loadVar, hg, hv w hs]
theorem q_loadXs {t z : Nat} {p : Addr} (vs : List Value) {ox : Operand} {ty : TypeId} {pos : String} {af : Array Edge} {g : Option (Nat × Bool)} {dd : Option Nat} (hx : E l ox = some (.pointer (some p))) (hg : ∀ w, (isAgg t).run P w = .ok true w) (hz : ∀ w, (sizeOf t).run P w = .ok z w) (hv : ∀ w, Sta e0 U L w → ∀ j v, vs[j]? = some v → w.cell? (p.add j) = some v) (hn : z = vs.length) : Q1 P e0 U l L ⟨dd, .load t ox, ty, pos, af, g⟩ (.agg vs.toArray) := by
 intro a w hf hs
 have hc := run_loadCells_list (P := P) (w := w) p vs (hv w hs)
 simp [execOp, hf.ev hx, Instr.loadAt, Instr.sureAddr, loadVar, hg, hz, hc, hn]
theorem q_makeFunc {f : FuncId} {fi ca : Array Operand} (vf vc : List Value) {ty : TypeId} {pos : String} {af : Array Edge} {g : Option (Nat × Bool)} {dd : Option Nat} (h1 : Es l fi.toList vf) (h2 : Es l ca.toList vc) : Q1 P e0 U l L ⟨dd, .makeFunc (.func f) fi ca, ty, pos, af, g⟩ (.func (.func f) vf.toArray vc.toArray) := by
 intro a w hf hs
 have e1 : fi.map a.eval = vf.toArray := Array.ext' (by simp [Es.map hf h1])
 have e2 : ca.map a.eval = vc.toArray := Array.ext' (by simp [Es.map hf h2])
 simp [execOp, Instr.makeFunc, e1, e2]
end
end
end Go.Proofs.YthggkidiidnaoaaGreatDoor
