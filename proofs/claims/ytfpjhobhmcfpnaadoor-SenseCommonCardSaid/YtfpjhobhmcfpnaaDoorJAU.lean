import Derived.Test.YtfpjhobhmcfpnaaDoorJAG
import Derived.Test.YtfpjhobhmcfpnaaDoorJAH
import Derived.Test.YtfpjhobhmcfpnaaDoorJAS
import Derived.Test.YtfpjhobhmcfpnaaDoorJAT
import Derived.RangeFuncNested
import Derived.RangeFuncBound
import Derived.RangeFuncCalls
import Derived.RangeFuncLeaves
import Derived.Shelf.Abstract
import Derived.Shelf.RegionOpen
import Derived.OwnWalkIn
import Derived.TacticsInMore
import Derived.Maps.AppendAt
import Derived.Deep.OwnRows
section
/- slices.AppendSeq and slices.Collect over any iterator of whole numbers that keeps what lay before, over this seat's translation. -/
namespace Go.Proofs.YtfpjhobhmcfpnaaDoor
set_option linter.unusedVariables false
set_option linter.unusedSimpArgs false
open Go.RowKit Go.Shelf
attribute [local go_sem] Oper.semAt_some

set_option maxRecDepth 100000 in
set_option maxHeartbeats 4000000 in
theorem appendSeq_any (g : Nat) (lb : Array Value) (eg : ∀ args w, (callFunc g args).run Tryd.prog w = .ok (.enter g args) w) (S : List Int) (Sp : List Int → Prop) (hS : S.length ≤ 1000) (w : World)
    (hseq : SeqStopsK Fence.wide 7 Tryd.prog g lb (fun x : Int => #[.int .i64 x]) (Below w.heap.size) (fun ys => ys = S) Sp S.length w) :
    Calls Tryd.prog 86 #[.slice none 0 0, .func (.func g) #[] lb] w fun e w' => ∃ (A : Option Addr) (cap : Nat), e = .returned (.slice A S.length cap) ∧ NewI w.heap.size w' A S.length cap S ∧ Below w.heap.size w w' := by
  refine (callsIn_wide (n := 8)).1 ?_
  have hI0 : (Tryd.prog.info? 3).map (fun i => (i.zero, i.size, i.bytes)) = some (some (.int .i64 0), 1, 8) := by kernel_rfl
  obtain ⟨i0, hi, hz0, hz1, hz2⟩ := info_parts hI0
  refine callsIn_of_wp_marks Tryd.func86 rfl trivial ?_ rfl
  simp only [Tryd.ntmps86, List.size_toArray, List.length_cons, List.length_nil, Nat.reduceAdd, Nat.reduceSub, Array.replicate_succ, Array.replicate_zero, List.push_toArray, List.append_toArray, List.nil_append, List.cons_append]
  gi_wp2
  have bO := Boxed.new w 30 (.slice none 0 0)
  have hB0 : Below w.heap.size w (w.alloc (.cells #[.slice none 0 0] 30)) := (Below.refl _ w).alloc (Nat.le_refl _) _
  refine wpIn_rangeFunc_ownG rfl (by omega) (gf := g) (lb := lb) rfl trivial eg
    hseq belowK_t (belowK_b (by simp)) hB0 (fun _ => rfl)
    (fun pre W => (∃ v, Boxed W w.heap.size 30 v ∧ W.ownsRow w.heap.size 3 1 v pre.length (pre.map (Value.int .i64)) ∧ True) ∧ Below w.heap.size w W)
    (fun _ _ _ => False)
    (OwnFrom.and (Own.from (holdsRow_own w.heap.size w.heap.size 30 3 1 (fun pre : List Int => pre.length) (fun pre => pre.map (Value.int .i64)) (fun pre v => True)) _) (ownFrom_below (Nat.le_refl _) (by simp)))
    (fun _ _ _ _ _ hs _ _ => hs)
    ⟨⟨_, bO, World.ownsRow_nil _ _ _ _, trivial⟩, hB0⟩
    (fun x => { tmps := #[.slice none 0 0, .func (.func g) #[] lb, .pointer (some ⟨w.heap.size, 0, none⟩), undef, .slice none 0 0, .int .i64 x, .func (.func g) #[] lb, .int .i64 x, undef, undef, undef, undef, undef], defers := [] }) ?assign ?body ?done ?stop
  case assign =>
    intro l x W K hK
    gi_wp2
    exact hK
  case body =>
    rintro l pre x W ⟨⟨v, hv, hrow, -⟩, hB⟩ hlt
    have hc := hv.cell
    gi_wp2_with (gi_at_builtin; refine wpListIn_append_own _ rfl _ _ 30 rfl w.heap.size 3 i0 (.int .i64 0) 1 8 Tryd.underlying30 hi hz0 hz1 hz2 rfl (by decide) _ _ _ rfl (hrow.alloc _) ⟨W.heap.size, 0, none⟩ 1 1 [.int .i64 x] rfl rfl (cell_one_new _ _ _) (by simp [Value.oneCell']) (by unfold maxLen; omega) (by omega) (by have := hB.size; simp; omega) ?_; intro v' w1 hown' hgrow _; obtain ⟨g', cap', rfl⟩ := ownsRow_succ hown'; obtain ⟨hv1, hv2, hr2, hk2, hb2⟩ := hv.appended (by decide) hrow hB.size (Nat.le_refl _) hown' hgrow; have hc1 := hv1.cell; have hf1 := hv1.frozen)
    exact ⟨hk2.from _, hb2, ⟨_, hv2, by simpa using hr2, trivial⟩, hB.trans hb2⟩
  case done =>
    rintro D ys W hD rfl ⟨⟨v, hv, hrow, -⟩, hB⟩ hK
    have hc := hv.cell
    gi_wp2
    refine ⟨by simp, .inl ⟨_, _, rfl, run_takeDeferred hK, ?_⟩⟩
    obtain ⟨A, cap, rfl, hN⟩ := newI_of_row rfl (ownsRow_putObj hrow _ hK rfl)
    exact ⟨_, results_tmp rfl _ _ _, A, cap, rfl, hN, hB.trans (belowK_b (w := w) (Nat.le_refl _) W D _ _ (by simp at hD; omega) hK rfl rfl)⟩
  case stop =>
    rintro D c pre W _ _ h _
    exact h.elim

set_option maxHeartbeats 1000000 in
theorem collect_any (g : Nat) (lb : Array Value) (eg : ∀ args w, (callFunc g args).run Tryd.prog w = .ok (.enter g args) w) (S : List Int) (Sp : List Int → Prop) (hS : S.length ≤ 1000) (w : World)
    (hseq : SeqStopsK Fence.wide 7 Tryd.prog g lb (fun x : Int => #[.int .i64 x]) (Below w.heap.size) (fun ys => ys = S) Sp S.length w) :
    Calls Tryd.prog 46 #[.func (.func g) #[] lb] w fun e w' => ∃ (A : Option Addr) (cap : Nat), e = .returned (.slice A S.length cap) ∧ NewI w.heap.size w' A S.length cap S ∧ Below w.heap.size w w' := by
  have HA := Lib.hid (appendSeq_any g lb eg S Sp hS w hseq)
  clear hseq eg
  go_enter Tryd.func46, Tryd.ntmps46
  go_wp2_with fail
  refine HA.out.mono ?_
  rintro e w1 ⟨A, cap, rfl, hN, hb⟩
  have HN := Lib.hid hN
  clear hN
  go_wp2_with fail
  go_ret
  exact ⟨A, cap, rfl, HN.out, hb⟩

end Go.Proofs.YtfpjhobhmcfpnaaDoor
end
section
/- The specification of layer 2: All, over this seat's translation (written by mk_all.py). -/
namespace Go.Proofs.YtfpjhobhmcfpnaaDoor
set_option linter.unusedVariables false
set_option linter.unusedSimpArgs false
open Go.RowKit Go.Shelf

end Go.Proofs.YtfpjhobhmcfpnaaDoor
end
section
/- Rows of cells in memory of one's own: filled cell by cell, and appended to empty literals, over this seat's translation. -/
namespace Go.Proofs.YtfpjhobhmcfpnaaDoor
set_option linter.unusedVariables false
set_option linter.unusedSimpArgs false
open Go.RowKit Go.Shelf

/-- Block b holds just the values vs, none marked. -/
structure RowL (b : Nat) (vs : List Value) (W : World) : Prop where
  lt : b < W.heap.size
  cell : ∀ (j : Nat) (v : Value), vs[j]? = some v → W.cell? ⟨b, j, none⟩ = some v
  mark : ∀ j, j < vs.length → W.frozen? ⟨b, j, none⟩ = false
theorem RowL.below {b : Nat} {vs : List Value} {W W' : World} (h : RowL b vs W) (hb : Below W.heap.size W W') : RowL b vs W' :=
  ⟨Nat.lt_of_lt_of_le h.lt hb.size, fun j v hv => (hb.cell (p := ⟨b, j, none⟩) h.lt).trans (h.cell j v hv), fun j hj => (hb.frozen (p := ⟨b, j, none⟩) h.lt).trans (h.mark j hj)⟩
theorem RowL.new (W : World) (cs : Array Value) (t : TypeId) : RowL W.heap.size cs.toList (W.alloc (.cells cs t)) := by
  refine ⟨by simp, fun j v hv => ?_, fun j hj => ?_⟩
  · rw [Array.getElem?_toList] at hv
    unfold World.cell?
    rw [heap_alloc_new]
    simpa using hv
  · unfold World.frozen?
    rw [heap_alloc_new]
    simp
theorem RowL.drew {b : Nat} {vs : List Value} {W : World} (h : RowL b vs W) : RowL b vs W.drew := h.below ((Below.refl _ _).drew)
theorem RowL.alloc {b : Nat} {vs : List Value} {W : World} (h : RowL b vs W) (o : Obj) : RowL b vs (W.alloc o) := h.below ((Below.refl _ _).alloc (Nat.le_refl _) o)
theorem RowL.far {b : Nat} {vs : List Value} {W : World} (h : RowL b vs W) {p : Addr} (hp : b ≠ p.block) (v : Value) : RowL b vs (W.setCell p v) :=
  ⟨by rw [World.size_setCell]; exact h.lt, fun j u hu => by
      rw [World.cell?_setCell_other _ _ _ _ (fun e => hp (by first | exact congrArg Addr.block e | exact (congrArg Addr.block e).symm))]; exact h.cell j u hu, fun j hj => by rw [World.frozen?_setCell]; exact h.mark j hj⟩
theorem RowL.put {b : Nat} {vs : List Value} {W : World} (h : RowL b vs W) (k : Nat) (v : Value) (hk : k < vs.length) : RowL b (vs.set k v) (W.setCell ⟨b, k, none⟩ v) :=
  ⟨by rw [World.size_setCell]; exact h.lt, fun j u hu => by
      by_cases e : j = k
      · subst e
        rw [List.getElem?_set_self hk] at hu
        obtain rfl := Option.some.inj hu
        exact World.cell?_setCell_same' _ _ _ (by rw [h.cell j _ (List.getElem?_eq_getElem hk)]; rfl)
      · rw [World.cell?_setCell_other _ _ _ _ (fun h2 => by
          have := congrArg Addr.off h2
          dsimp only at this
          omega)]
        exact h.cell j u (by rwa [List.getElem?_set_ne (Ne.symm e)] at hu), fun j hj => by rw [World.frozen?_setCell]; exact h.mark j (by simpa using hj)⟩
theorem RowL.isI {b : Nat} {zs : List Int} {W : World} (h : RowL b (zs.map (Value.int .i64)) W) {n : Nat} (hn : zs.length = n) : IsT 1 intCells W (some ⟨b, 0, none⟩) n zs := by
  refine ⟨hn, fun _ => ⟨b, 0, rfl, h.lt, fun j x hx i v hv => ?_⟩⟩
  have hi : i = 0 := by
    have := (List.getElem?_eq_some_iff.1 hv).1
    simp [intCells] at this; omega
  subst hi
  have hv' : v = .int .i64 x := by simpa [intCells] using hv.symm
  subst hv'
  rw [show (0 + j * 1 + 0 : Nat) = j by omega]
  exact h.cell j _ (by rw [List.getElem?_map, hx]; rfl)
theorem ZeroL.row {b n : Nat} {W : World} (h : ZeroL b n W) : RowL b (List.replicate n (.int .i64 0)) W :=
  ⟨h.lt, fun j v hv => by
    have hj := (List.getElem?_eq_some_iff.1 hv).1
    rw [List.length_replicate] at hj
    rw [List.getElem?_replicate, if_pos hj] at hv
    obtain rfl := Option.some.inj hv
    exact h.cell j hj, fun j hj => h.mark j (by simpa using hj)⟩
/-- The first j of a row of n are laid. -/
theorem fill_set (T : List Value) (n j : Nat) (z v : Value) (hl : T.length = n) (hv : T[j]? = some v) : (T.take j ++ List.replicate (n - j) z).set j v = T.take (j + 1) ++ List.replicate (n - (j + 1)) z := by
  obtain ⟨hj, rfl⟩ := List.getElem?_eq_some_iff.1 hv
  have h1 : (T.take j).length = j := by rw [List.length_take]; omega
  rw [List.set_append_right _ _ (by omega), h1, Nat.sub_self, show n - j = (n - (j + 1)) + 1 by omega, List.replicate_succ, List.set_cons_zero, List.take_succ_eq_append_getElem hj, List.append_assoc]; rfl

end Go.Proofs.YtfpjhobhmcfpnaaDoor
end
section
/- append of one item of several cells; lists out of rows of one's own, over this seat's translation (written by mk_can.py). -/
namespace Go.Proofs.YtfpjhobhmcfpnaaDoor
set_option linter.unusedVariables false
set_option linter.unusedSimpArgs false
open Go.RowKit Go.Shelf

theorem below_grownK {B k : Nat} {w0 w w1 : World} {e : TypeId} {v : Value} {n : Nat} {xs : List Value} (h : Below B w0 w) (hown : w.ownsRow B e k v n xs) (hg : w.grownBy w1 v.ownBlock) (hB : B ≤ w.heap.size) : Below B w0 w1 := by
  refine h.grown hg hB (fun k hk => ?_)
  rcases hown.2 with ⟨rfl, _⟩ | ⟨g, cap, cur, rfl, hb, _⟩
  · simp [Value.ownBlock] at hk
  · simp [Value.ownBlock] at hk
    omega

theorem list_push1 {ops : Array Oper} {rest : List Oper} {o : Oper} {a : Act} {Q : Exit → Act → World → Prop} {w : World} (B : Nat) (W0 : World) (hgd : o.guard = none) (s x : Operand) (t e : TypeId) (size bytes : Nat) (z : Value)
    (ht : Tryd.prog.underlying t = some (.slice e)) (hI0 : (Tryd.prog.info? e).map (fun i => (i.zero, i.size, i.bytes)) = some (some z, size, bytes)) (hzs : z.cells.size = size) (hsz : 0 < size)
    (ho : o.op = .call { callee := .builtin .append, args := #[s, x], argTypes := #[t, t] })
    (v : Value) (n : Nat) (xs : List Value) (hs : a.eval s = v) (hown : w.ownsRow B e size v n xs) (g0 : Nat) (cs : Array Value) (hx : a.eval x = .slice (some ⟨g0, 0, none⟩) 1 1)
    (hblk : w.heap[g0]? = some (.cells cs e (0, 0))) (hcs : cs.size = size) (h1 : ∀ u ∈ cs.toList, u.oneCell' = true) (hn : n ≤ 100000) (hbt : bytes ≤ 1000) (hB : B ≤ w.heap.size) (h0 : Below B W0 w)
    (hk : ∀ A' cap' w', w'.ownsRow B e size (.slice A' (n + 1) cap') (n + 1) (xs ++ cs.toList) → Below B W0 w' → w.heap.size ≤ w'.heap.size → wpList Tryd.prog ops Q rest (a.put o.dst (.slice A' (n + 1) cap')) w') :
    wpList Tryd.prog ops Q (o :: rest) a w := by
  obtain ⟨i, hi, hzz⟩ := Option.map_eq_some_iff.1 hI0
  simp only [Prod.mk.injEq] at hzz
  obtain ⟨hz, hz1, hz2⟩ := hzz
  refine wpList_append_lies w hgd s x t ho B e i z size bytes ht hi hz hz1 hz2 hzs hsz v n xs hs hown ⟨g0, 0, none⟩ 1 1 cs.toList hx (by rw [Array.length_toList, hcs, Nat.one_mul]) (World.news_of_block hblk) h1 (by decide) (by unfold maxLen; omega) ?_ hB w.heap.size rfl (fun g cap w' h1 h2 h3 h4 => ?_)
  · have h5 : (n + 1) * bytes ≤ 100001 * 1000 := Nat.mul_le_mul (by omega) hbt
    omega
  · exact hk _ cap w' h1 (below_grownK h0 hown h2 hB) h2.size

theorem flatN {α : Type} {n : Nat} {enc : α → List Value} (hl : ∀ x, (enc x).length = n) : ∀ (l : List α) (j : Nat) (x : α), l[j]? = some x → ∀ (i : Nat) (v : Value), (enc x)[i]? = some v → (l.flatMap enc)[j * n + i]? = some v
  | [], j, x, h, _, _, _ => by simp at h
  | y :: r, 0, x, h, i, v, hv => by
    obtain rfl : y = x := by simpa using h
    have hi := (List.getElem?_eq_some_iff.1 hv).1
    rw [List.flatMap_cons, Nat.zero_mul, Nat.zero_add, List.getElem?_append_left hi]
    exact hv
  | y :: r, j + 1, x, h, i, v, hv => by
    have h' : r[j]? = some x := by simpa using h
    have ih := flatN hl r j x h' i v hv
    rw [List.flatMap_cons, List.getElem?_append_right (by rw [hl, Nat.succ_mul]; omega), hl, show (j + 1) * n + i - n = j * n + i by rw [Nat.succ_mul]; omega]
    exact ih
/-- A list out of a row of one's own. -/
theorem own_isT {α : Type} {n : Nat} {enc : α → List Value} (hl : ∀ x, (enc x).length = n) (hn : 0 < n) {w : World} {B : Nat} {e : TypeId} {A : Option Addr} {len cap : Nat} {zs : List α} (h : w.ownsRow B e n (.slice A len cap) len (zs.flatMap enc)) (hz : zs.length = len) :
    IsT n enc w A len zs ∧ len ≤ cap ∧ cap ≤ maxLen := by
  rcases h.2 with ⟨hv, h0⟩ | ⟨g, c, cur, hv, hB, hg, hc, hm, hs, ht⟩
  · injection hv with e1 e2 e3
    subst e1 e3
    refine ⟨⟨hz, fun h => by omega⟩, by omega, Nat.zero_le _⟩
  · injection hv with e1 e2 e3
    subst e1 e3
    refine ⟨⟨hz, fun _ => ⟨g, 0, rfl, (Array.getElem?_eq_some_iff.1 hg).1, fun j x hx i v hi => ?_⟩⟩, hc, hm⟩
    have hj : j < len := by rw [← hz]; exact (List.getElem?_eq_some_iff.1 hx).1
    have hil : i < n := by rw [← hl x]; exact (List.getElem?_eq_some_iff.1 hi).1
    have hb : j * n + i < len * n := by
      have : (j + 1) * n ≤ len * n := Nat.mul_le_mul_right _ hj
      rw [Nat.succ_mul] at this
      omega
    have := h.cellAt (j * n + i) hb
    rw [flatN hl zs j x hx i v hi] at this
    rw [show (0 + j * n + i : Nat) = j * n + i by omega]
    exact this
theorem ownK_below {B : Nat} {e : TypeId} {k : Nat} {v : Value} {n : Nat} {xs : List Value} {w w' : World} (h : w.ownsRow B e k v n xs) (hb : Below w.heap.size w w') : w'.ownsRow B e k v n xs := by
  refine ⟨h.1, ?_⟩
  rcases h.2 with h0 | ⟨g, cap, cur, h1, h2, h3, h4⟩
  · exact Or.inl h0
  · exact Or.inr ⟨g, cap, cur, h1, h2, (hb.block g (Array.getElem?_eq_some_iff.1 h3).1).trans h3, h4⟩

end Go.Proofs.YtfpjhobhmcfpnaaDoor
end
section
/- Rows that a loop fills, over this seat's translation (written by mk_bks.py). -/
namespace Go.Proofs.YtfpjhobhmcfpnaaDoor
set_option linter.unusedVariables false
set_option linter.unusedSimpArgs false
open Go.RowKit Go.Shelf

/-- A list of n items in new memory, whose cells are T. -/
def MadeAt (n : Nat) (T : List Value) (w : World) (e : Ending) (w' : World) : Prop :=
  ∃ b : Nat, e = .returned (.slice (some ⟨b, 0, none⟩) n n) ∧ w.heap.size ≤ b ∧ RowL b T w' ∧ Below w.heap.size w w'
theorem fill_get (T : List Value) (n j : Nat) (z : Value) (hl : T.length = n) (hj : j < n) : (T.take j ++ List.replicate (n - j) z)[j]? = some z := by
  have h1 : (T.take j).length = j := by rw [List.length_take]; omega
  rw [List.getElem?_append_right (by omega), h1, Nat.sub_self, List.getElem?_replicate, if_pos (by omega)]
theorem fill_len (T : List Value) (n j : Nat) (z : Value) (hl : T.length = n) (hj : j ≤ n) : (T.take j ++ List.replicate (n - j) z).length = n := by
  rw [List.length_append, List.length_take, List.length_replicate]; omega
theorem fill_all (T : List Value) (n : Nat) (z : Value) (hl : T.length = n) : T.take n ++ List.replicate (n - n) z = T := by
  rw [Nat.sub_self, List.replicate_zero, List.append_nil, List.take_of_length_le (by omega)]
theorem fill_none (T : List Value) (n : Nat) (z : Value) : T.take 0 ++ List.replicate (n - 0) z = List.replicate n z := by
  rw [List.take_zero, List.nil_append, Nat.sub_zero]
/-- One more cell of a row is laid. -/
theorem RowL.fill {b : Nat} {T : List Value} {n j : Nat} {z v : Value} {W : World} (h : RowL b (T.take j ++ List.replicate (n - j) z) W) (hl : T.length = n) (hj : j < n) (hv : T[j]? = some v) : RowL b (T.take (j + 1) ++ List.replicate (n - (j + 1)) z) (W.setCell ⟨b, j, none⟩ v) := by
  have := h.put j v (by rw [fill_len T n j z hl (by omega)]; exact hj)
  rwa [fill_set T n j z v hl hv] at this

end Go.Proofs.YtfpjhobhmcfpnaaDoor
end
section
/- Package sense: withoutPlasma, over this seat's translation. -/
namespace Go.Proofs.YtfpjhobhmcfpnaaDoor
set_option linter.unusedVariables false
set_option linter.unusedSimpArgs false
open Go.RowKit Go.Shelf

theorem resC {fn : Func} {a : Tmp} (h : fn.results = #[.cell a 32]) (tmps : Array Value) (W : World) (x : Nat) (v0 v1 v2 : Value)
    (hp : tmps.getD a undef = .pointer (some ⟨x, 0, none⟩)) (e0 : W.cell? ⟨x, 0, none⟩ = some v0) (e1 : W.cell? ⟨x, 1, none⟩ = some v1) (e2 : W.cell? ⟨x, 2, none⟩ = some v2) :
    (results fn tmps).run Tryd.prog W = .ok (.agg #[v0, v1, v2]) W := by
  have hp' : tmps[a]?.getD undef = .pointer (some ⟨x, 0, none⟩) := by simpa using hp
  simp [results, h, hp', go_sem, e0, e1, e2]

theorem resC3 {fn : Func} {p : Tmp} (h : fn.results = #[.cell p 32]) (tmps : Array Value) (W : World) (b : Nat) (x y z : Value)
    (hp : tmps.getD p undef = .pointer (some ⟨b, 0, none⟩)) (h0 : (W.cell? ⟨b, 0, none⟩).isSome = true) (h1 : (W.cell? ⟨b, 1, none⟩).isSome = true) (h2 : (W.cell? ⟨b, 2, none⟩).isSome = true) :
    (results fn tmps).run Tryd.prog (((W.setCell ⟨b, 0, none⟩ x).setCell ⟨b, 1, none⟩ y).setCell ⟨b, 2, none⟩ z) = .ok (.agg #[x, y, z]) (((W.setCell ⟨b, 0, none⟩ x).setCell ⟨b, 1, none⟩ y).setCell ⟨b, 2, none⟩ z) := by
  refine resC h tmps _ b x y z hp ?_ ?_ ?_
  · rw [World.cell?_setCell_other _ _ _ _ (by simp), World.cell?_setCell_other _ _ _ _ (by simp)]; exact World.cell?_setCell_same' _ _ _ h0
  · rw [World.cell?_setCell_other _ _ _ _ (by simp)]; exact World.cell?_setCell_same' _ _ _ (by rw [World.cell?_setCell_other _ _ _ _ (by simp)]; exact h1)
  · exact World.cell?_setCell_same' _ _ _ (by rw [World.cell?_setCell_other _ _ _ _ (by simp), World.cell?_setCell_other _ _ _ _ (by simp)]; exact h2)

/-- Currents in new memory, the cells all 0. -/
structure DarkAt (B : Nat) (w' : World) (A : Option Addr) (na ca : Nat) (z1 : List Int) (A2 : Option Addr) (nb cb : Nat) (z2 : List Int) (pb nc : Nat) : Prop where
  coils : NewI B w' A na ca z1
  shells : NewI B w' A2 nb cb z2
  base : B ≤ pb
  lt : pb < w'.heap.size
  apart : (∀ a, A = some a → a.block ≠ pb) ∧ ∀ a, A2 = some a → a.block ≠ pb
  zero : ZeroL pb nc w'
def Dark (na nb nc : Nat) (z1 z2 : List Int) (w : World) (e : Ending) (w' : World) : Prop :=
  ∃ (A : Option Addr) (ca : Nat) (A2 : Option Addr) (cb pb : Nat), e = .returned (.agg #[.slice A na ca, .slice A2 nb cb, .slice (some ⟨pb, 0, none⟩) nc nc]) ∧ DarkAt w.heap.size w' A na ca z1 A2 nb cb z2 pb nc ∧ Below w.heap.size w w'

theorem infoI : (Tryd.prog.info? 3).map (fun i => (i.zero, i.size, i.bytes)) = some (some (.int .i64 0), 1, 8) := by kernel_rfl

set_option maxRecDepth 100000 in
set_option maxHeartbeats 4000000 in
theorem dark_any (A1 B1 C1 : Option Addr) (na qa nb qb nc qc : Nat) (z1 z2 : List Int) (w : World) (h1 : IsT 1 intCells w A1 na z1) (h2 : IsT 1 intCells w B1 nb z2) (l1 : na ≤ 1000000000000) (l2 : nb ≤ 1000000000000) (l3 : nc ≤ 1000000000000) :
    Calls Tryd.prog 25 #[.agg #[.slice A1 na qa, .slice B1 nb qb, .slice C1 nc qc]] w (Dark na nb nc z1 z2 w) := by
  have HK1 := Lib.hid (fun W (hb : Below w.heap.size w W) => clone_any A1 na qa z1 W (h1.below hb) l1)
  have HK2 := Lib.hid (fun W (hb : Below w.heap.size w W) => clone_any B1 nb qb z2 W (h2.below hb) l2)
  clear h1 h2
  have hmk := run_make_row' (P := Tryd.prog) 30 3 (.int .i64 0) 8 Tryd.underlying30 infoI rfl .i64 .i64 nc (by omega) (by omega)
  go_enter Tryd.func25, Tryd.ntmps25
  go_upto_region 1 with (fail)
  have c0 : ((w.alloc (.cells #[.slice A1 na qa, .slice B1 nb qb, .slice C1 nc qc] 32)).alloc (.cells #[.slice none 0 0, .slice none 0 0, .slice none 0 0] 32)).cell? ⟨w.heap.size, 0, none⟩ = some (.slice A1 na qa) := by go_simp
  have c1 : ((w.alloc (.cells #[.slice A1 na qa, .slice B1 nb qb, .slice C1 nc qc] 32)).alloc (.cells #[.slice none 0 0, .slice none 0 0, .slice none 0 0] 32)).cell? ⟨w.heap.size, 1, none⟩ = some (.slice B1 nb qb) := by go_simp
  have c2 : ((w.alloc (.cells #[.slice A1 na qa, .slice B1 nb qb, .slice C1 nc qc] 32)).alloc (.cells #[.slice none 0 0, .slice none 0 0, .slice none 0 0] 32)).cell? ⟨w.heap.size, 2, none⟩ = some (.slice C1 nc qc) := by go_simp
  have d0 : ((w.alloc (.cells #[.slice A1 na qa, .slice B1 nb qb, .slice C1 nc qc] 32)).alloc (.cells #[.slice none 0 0, .slice none 0 0, .slice none 0 0] 32)).cell? ⟨w.heap.size + 1, 0, none⟩ = some (.slice none 0 0) := by go_simp
  have f0 : ((w.alloc (.cells #[.slice A1 na qa, .slice B1 nb qb, .slice C1 nc qc] 32)).alloc (.cells #[.slice none 0 0, .slice none 0 0, .slice none 0 0] 32)).frozen? ⟨w.heap.size + 1, 0, none⟩ = false := by go_simp
  have d1 : ((w.alloc (.cells #[.slice A1 na qa, .slice B1 nb qb, .slice C1 nc qc] 32)).alloc (.cells #[.slice none 0 0, .slice none 0 0, .slice none 0 0] 32)).cell? ⟨w.heap.size + 1, 1, none⟩ = some (.slice none 0 0) := by go_simp
  have f1 : ((w.alloc (.cells #[.slice A1 na qa, .slice B1 nb qb, .slice C1 nc qc] 32)).alloc (.cells #[.slice none 0 0, .slice none 0 0, .slice none 0 0] 32)).frozen? ⟨w.heap.size + 1, 1, none⟩ = false := by go_simp
  have d2 : ((w.alloc (.cells #[.slice A1 na qa, .slice B1 nb qb, .slice C1 nc qc] 32)).alloc (.cells #[.slice none 0 0, .slice none 0 0, .slice none 0 0] 32)).cell? ⟨w.heap.size + 1, 2, none⟩ = some (.slice none 0 0) := by go_simp
  have f2 : ((w.alloc (.cells #[.slice A1 na qa, .slice B1 nb qb, .slice C1 nc qc] 32)).alloc (.cells #[.slice none 0 0, .slice none 0 0, .slice none 0 0] 32)).frozen? ⟨w.heap.size + 1, 2, none⟩ = false := by go_simp
  have hB : Below w.heap.size w ((w.alloc (.cells #[.slice A1 na qa, .slice B1 nb qb, .slice C1 nc qc] 32)).alloc (.cells #[.slice none 0 0, .slice none 0 0, .slice none 0 0] 32)) := by (with_reducible repeat first | exact Below.refl _ _ | assumption | ((first | refine Below.setCell ?_ ?_ _ | refine Below.alloc ?_ ?_ _); rotate_left; exact (by first | omega | (simp; done) | (simp; omega))) | refine Below.drew ?_ | refine Below_drewN ?_ _)
  have hz : w.heap.size + 1 < ((w.alloc (.cells #[.slice A1 na qa, .slice B1 nb qb, .slice C1 nc qc] 32)).alloc (.cells #[.slice none 0 0, .slice none 0 0, .slice none 0 0] 32)).heap.size := by simp
  obtain ⟨W0, hW0⟩ : ∃ W, (w.alloc (.cells #[.slice A1 na qa, .slice B1 nb qb, .slice C1 nc qc] 32)).alloc (.cells #[.slice none 0 0, .slice none 0 0, .slice none 0 0] 32) = W := ⟨_, rfl⟩
  rw [hW0] at c0 c1 c2 d0 d1 d2 f0 f1 f2 hB hz ⊢
  clear hW0
  have HS : Hid (∀ w' : World, Reg (w.heap.size + 1) (W0) w' → (Reg (w.heap.size + 1) (W0) w' ∧ w'.cell? ⟨w.heap.size, 0, none⟩ = some (.slice A1 na qa) ∧ w'.cell? ⟨w.heap.size, 1, none⟩ = some (.slice B1 nb qb) ∧ w'.cell? ⟨w.heap.size, 2, none⟩ = some (.slice C1 nc qc) ∧ w'.cell? ⟨w.heap.size + 1, 0, none⟩ = some (cur w' ⟨w.heap.size + 1, 0, none⟩) ∧ w'.frozen? ⟨w.heap.size + 1, 0, none⟩ = false ∧ w'.cell? ⟨w.heap.size + 1, 1, none⟩ = some (cur w' ⟨w.heap.size + 1, 1, none⟩) ∧ w'.frozen? ⟨w.heap.size + 1, 1, none⟩ = false ∧ w'.cell? ⟨w.heap.size + 1, 2, none⟩ = some (cur w' ⟨w.heap.size + 1, 2, none⟩) ∧ w'.frozen? ⟨w.heap.size + 1, 2, none⟩ = false)) := (fun w' h => by (have hc := h.cells; have hs := h.some; have hf := h.frozen; refine ⟨h, ?_⟩; (try simp only [World.size_alloc, World.size_setCell, size_drew, size_drewN] at hc hs hf); first | (simp (disch := omega) only [hc, hs, hf, cur_iff]; (try go_simp); done) | (simp (disch := first | omega | (simp; done)) only [hc, hs, hf, cur_iff]; (try go_simp); done) | (simp (maxDischargeDepth := 4) [hc, hs, hf, cur_iff, go_sem]; done) | (go_simp; done) | (simp (maxDischargeDepth := 4) [hc, hs, hf, cur_iff, go_sem]; go_simp))); go_region_held3 (fun w' => Reg (w.heap.size + 1) (W0) w' ∧ w'.cell? ⟨w.heap.size, 0, none⟩ = some (.slice A1 na qa) ∧ w'.cell? ⟨w.heap.size, 1, none⟩ = some (.slice B1 nb qb) ∧ w'.cell? ⟨w.heap.size, 2, none⟩ = some (.slice C1 nc qc) ∧ w'.cell? ⟨w.heap.size + 1, 0, none⟩ = some (cur w' ⟨w.heap.size + 1, 0, none⟩) ∧ w'.frozen? ⟨w.heap.size + 1, 0, none⟩ = false ∧ w'.cell? ⟨w.heap.size + 1, 1, none⟩ = some (cur w' ⟨w.heap.size + 1, 1, none⟩) ∧ w'.frozen? ⟨w.heap.size + 1, 1, none⟩ = false ∧ w'.cell? ⟨w.heap.size + 1, 2, none⟩ = some (cur w' ⟨w.heap.size + 1, 2, none⟩) ∧ w'.frozen? ⟨w.heap.size + 1, 2, none⟩ = false) (exact HS.out _ (by (repeat first | with_reducible exact Reg.refl _ _ | with_reducible exact Reg.drewN2 _ _ _ _ | with_reducible exact (‹Reg _ _ _ ∧ _›).1 | (with_reducible refine Reg.setCell ?_ ?_ _; rotate_left; exact (by first | omega | ((try simp only [World.size_alloc, World.size_setCell, size_drew, size_drewN]); omega) | (simp; done) | (simp; omega))) | with_reducible refine Reg.alloc ?_ _ | with_reducible refine Reg.drew ?_ | with_reducible refine Reg.drewN ?_ _ | (with_reducible apply Reg.call; rotate_left; with_reducible assumption)))) (first | (go_at_call 61; (with_reducible refine (HK1.out _ (Reg.out (‹Reg _ _ _ ∧ _›).1 (by (with_reducible repeat first | exact Below.refl _ _ | assumption | ((first | refine Below.setCell ?_ ?_ _ | refine Below.alloc ?_ ?_ _); rotate_left; exact (by first | omega | (simp; done) | (simp; omega))) | refine Below.drew ?_ | refine Below_drewN ?_ _)) (by first | omega | (simp; done) | (simp; omega)))).mono ?_); rintro e w8 ⟨Ac, cac, rfl, hnc, hb⟩; have hbc := hb; (first | (with_reducible have hk := Nat.lt_of_lt_of_le (size_alloc_lt _ _) hb.size) | (with_reducible have hk := Nat.lt_of_lt_of_le (size_alloc_drew_lt _ _) hb.size) | (with_reducible have hk := Nat.lt_of_lt_of_le hk hb.size) | skip); (try simp only [World.size_alloc, World.size_setCell, size_drew, size_drewN] at hk); obtain ⟨hc, hf⟩ := bcell hb; have hs := hb.size; (try simp only [World.size_alloc, World.size_setCell, size_drew, size_drewN] at hs)) | (go_at_call 61; (with_reducible refine (HK2.out _ (Reg.out (‹Reg _ _ _ ∧ _›).1 (by (with_reducible repeat first | exact Below.refl _ _ | assumption | ((first | refine Below.setCell ?_ ?_ _ | refine Below.alloc ?_ ?_ _); rotate_left; exact (by first | omega | (simp; done) | (simp; omega))) | refine Below.drew ?_ | refine Below_drewN ?_ _)) (by first | omega | (simp; done) | (simp; omega)))).mono ?_); rintro e w9 ⟨As, cas, rfl, hns, hb⟩; have hbs := hb; (first | (with_reducible have hk := Nat.lt_of_lt_of_le (size_alloc_lt _ _) hb.size) | (with_reducible have hk := Nat.lt_of_lt_of_le (size_alloc_drew_lt _ _) hb.size) | (with_reducible have hk := Nat.lt_of_lt_of_le hk hb.size) | skip); (try simp only [World.size_alloc, World.size_setCell, size_drew, size_drewN] at hk); obtain ⟨hc, hf⟩ := bcell hb; have hs := hb.size; (try simp only [World.size_alloc, World.size_setCell, size_drew, size_drewN] at hs)))
  all_goals go_wp2_with fail
  all_goals (have zz1 := hbc.size; have zz2 := hbs.size; (try simp only [World.size_alloc, World.size_setCell, size_drew, size_drewN] at zz1 zz2))
  all_goals (have q1 := hnc.new; have q2 := hnc.lt; have q3 := hns.new; have q4 := hns.lt; (try simp only [World.size_alloc, World.size_setCell, size_drew, size_drewN] at q1 q2 q3 q4))
  all_goals (have hnc0 := hnc.mono (B' := w.heap.size) (by (try simp only [World.size_alloc, World.size_setCell, size_drew, size_drewN]); omega); have hns0 := hns.mono (B' := w.heap.size) (by (try simp only [World.size_alloc, World.size_setCell, size_drew, size_drewN]); omega))
  all_goals exact bodyPost_ret (resC3 Tryd.results25 _ _ _ _ _ _ rfl ((Reg.some (x := w.heap.size + 1) (W := W0) (by (repeat first | with_reducible exact Reg.refl _ _ | with_reducible exact Reg.drewN2 _ _ _ _ | with_reducible exact (‹Reg _ _ _ ∧ _›).1 | (with_reducible refine Reg.setCell ?_ ?_ _; rotate_left; exact (by first | omega | ((try simp only [World.size_alloc, World.size_setCell, size_drew, size_drewN]); omega) | (simp; done) | (simp; omega))) | with_reducible refine Reg.alloc ?_ _ | with_reducible refine Reg.drew ?_ | with_reducible refine Reg.drewN ?_ _ | (with_reducible apply Reg.call; rotate_left; with_reducible assumption))) (w.heap.size + 1) 0 (by omega)).trans (by rw [d0]; rfl)) ((Reg.some (x := w.heap.size + 1) (W := W0) (by (repeat first | with_reducible exact Reg.refl _ _ | with_reducible exact Reg.drewN2 _ _ _ _ | with_reducible exact (‹Reg _ _ _ ∧ _›).1 | (with_reducible refine Reg.setCell ?_ ?_ _; rotate_left; exact (by first | omega | ((try simp only [World.size_alloc, World.size_setCell, size_drew, size_drewN]); omega) | (simp; done) | (simp; omega))) | with_reducible refine Reg.alloc ?_ _ | with_reducible refine Reg.drew ?_ | with_reducible refine Reg.drewN ?_ _ | (with_reducible apply Reg.call; rotate_left; with_reducible assumption))) (w.heap.size + 1) 1 (by omega)).trans (by rw [d1]; rfl)) ((Reg.some (x := w.heap.size + 1) (W := W0) (by (repeat first | with_reducible exact Reg.refl _ _ | with_reducible exact Reg.drewN2 _ _ _ _ | with_reducible exact (‹Reg _ _ _ ∧ _›).1 | (with_reducible refine Reg.setCell ?_ ?_ _; rotate_left; exact (by first | omega | ((try simp only [World.size_alloc, World.size_setCell, size_drew, size_drewN]); omega) | (simp; done) | (simp; omega))) | with_reducible refine Reg.alloc ?_ _ | with_reducible refine Reg.drew ?_ | with_reducible refine Reg.drewN ?_ _ | (with_reducible apply Reg.call; rotate_left; with_reducible assumption))) (w.heap.size + 1) 2 (by omega)).trans (by rw [d2]; rfl))) rfl ⟨_, _, _, _, _, rfl, ⟨(by (repeat first | with_reducible assumption | (with_reducible refine NewI.setCell ?_ (fun a ha => (by have h9 := q1 a ha; dsimp only; omega)) _) | with_reducible refine NewI.alloc ?_ _ | with_reducible refine NewI.drew ?_ | (with_reducible apply NewI.below; rotate_left; with_reducible assumption))), (by (repeat first | with_reducible assumption | (with_reducible refine NewI.setCell ?_ (fun a ha => (by have h9 := q3 a ha; dsimp only; omega)) _) | with_reducible refine NewI.alloc ?_ _ | with_reducible refine NewI.drew ?_ | (with_reducible apply NewI.below; rotate_left; with_reducible assumption))), (by (try simp only [World.size_alloc, World.size_setCell, size_drew, size_drewN]); omega), by (simp; try omega), ⟨fun a ha => (by have h9 := q1 a ha; have h8 := q2 a ha; (try simp only [World.size_alloc, World.size_setCell, size_drew, size_drewN]); omega), fun a ha => (by have h9 := q3 a ha; have h8 := q4 a ha; (try simp only [World.size_alloc, World.size_setCell, size_drew, size_drewN]); omega)⟩, by (repeat first | with_reducible assumption | (with_reducible exact ZeroL.new _ _ _ (by omega)) | (with_reducible refine ZeroL.setCell ?_ (by dsimp only; omega) _) | with_reducible refine ZeroL.alloc ?_ _ | with_reducible refine ZeroL.drew ?_ | (with_reducible apply ZeroL.below; rotate_left; with_reducible assumption))⟩, Reg.out (x := w.heap.size + 1) (by (repeat first | with_reducible exact Reg.refl _ _ | with_reducible exact Reg.drewN2 _ _ _ _ | with_reducible exact (‹Reg _ _ _ ∧ _›).1 | (with_reducible refine Reg.setCell ?_ ?_ _; rotate_left; exact (by first | omega | ((try simp only [World.size_alloc, World.size_setCell, size_drew, size_drewN]); omega) | (simp; done) | (simp; omega))) | with_reducible refine Reg.alloc ?_ _ | with_reducible refine Reg.drew ?_ | with_reducible refine Reg.drewN ?_ _ | (with_reducible apply Reg.call; rotate_left; with_reducible assumption))) hB (by omega)⟩

end Go.Proofs.YtfpjhobhmcfpnaaDoor
end
