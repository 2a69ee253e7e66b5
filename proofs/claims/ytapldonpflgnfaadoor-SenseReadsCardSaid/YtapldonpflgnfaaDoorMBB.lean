import Derived.Test.YtapldonpflgnfaaDoorMAB
import Derived.Test.YtapldonpflgnfaaDoorMAC
import Derived.Test.YtapldonpflgnfaaDoorMAF
import Derived.Test.YtapldonpflgnfaaDoorMAI
import Derived.Test.YtapldonpflgnfaaDoorMAN
import Derived.Test.YtapldonpflgnfaaDoorMAP
import Derived.Test.YtapldonpflgnfaaDoorMAS
import Derived.Test.YtapldonpflgnfaaDoorMAT
import Derived.Test.YtapldonpflgnfaaDoorMAU
import Derived.Test.YtapldonpflgnfaaDoorMAY
import Derived.Test.YtapldonpflgnfaaDoorMAZ
import Derived.Test.YtapldonpflgnfaaDoorMBA
import Derived.Test.YtapldonpflgnfaaDoorRows
import Derived.KernelRfl
import Derived.Laws.StructEq
import Derived.Deep.QuietTactic
import Derived.BigQuiet
import Derived.Deep.RegionLaw
import Derived.Handy
import Derived.Outline
namespace Go.Proofs.YtapldonpflgnfaaDoor
set_option linter.unusedVariables false
set_option linter.unusedSimpArgs false
section
open Go.RowKit
end
section
open Go.RowKit Go.Shelf
theorem fill_len (T : List Value) (n j : Nat) (z : Value) (hl : T.length = n) (hj : j ≤ n) : (T.take j ++ List.replicate (n - j) z).length = n := by
  rw [List.length_append, List.length_take, List.length_replicate]; omega
theorem RowL.fill {b : Nat} {T : List Value} {n j : Nat} {z v : Value} {W : World} (h : RowL b (T.take j ++ List.replicate (n - j) z) W) (hl : T.length = n) (hj : j < n) (hv : T[j]? = some v) : RowL b (T.take (j + 1) ++ List.replicate (n - (j + 1)) z) (W.setCell ⟨b, j, none⟩ v) := by
  have := h.put j v (by rw [fill_len T n j z hl (by omega)]; exact hj)
  rwa [fill_set T n j z v hl hv] at this
end
section
open Go.RowKit Go.Shelf
end
section
open Go.RowKit
def RowsG (f : Nat → List Int) (n : Nat) (G : Boxes) (rows : List (Option Addr × Nat)) : Prop := ∀ (i : Nat) r, rows[i]? = some r → ∃ b sp, r.1 = some ⟨b, 0, none⟩ ∧ (b, Cont.cells ((f i).map (Value.int .i64) ++ sp)) ∈ G ∧ n ≤ r.2 ∧ r.2 ≤ 9223372036854775807
theorem RowsG.snoc {f : Nat → List Int} {n : Nat} {G : Boxes} {rows : List (Option Addr × Nat)} (h : RowsG f n G rows) {o : Gr} {cs : List Value} (hg : gok o n 1 cs) (hn : 0 < n) (hcs : cs = (f rows.length).map (Value.int .i64)) : RowsG f n (gt o cs ++ G) (rows ++ [(gA o, gC o)]) := by
  intro i r hr
  rcases Nat.lt_or_ge i rows.length with g1 | g1
  · rw [List.getElem?_append_left g1] at hr
    obtain ⟨b, sp, e, hm, h1⟩ := h i r hr
    exact ⟨b, sp, e, List.mem_append_right _ hm, h1⟩
  · rw [List.getElem?_append_right g1] at hr
    have hi : i - rows.length = 0 := by
      have := (List.getElem?_eq_some_iff.1 hr).1
      simp only [List.length_cons, List.length_nil] at this; omega
    rw [hi] at hr
    obtain rfl : (gA o, gC o) = r := by simpa using hr
    obtain ⟨b, c, sp, rfl⟩ := hg.some hn
    obtain ⟨h1, h2, h3⟩ := hg.own b c sp rfl
    refine ⟨b, sp, rfl, List.mem_append_left _ ?_, h1, h2⟩
    rw [show i = rows.length by omega, ← hcs]; simp [gt]
end
section
open Go.RowKit Go.Shelf
end
section
open Go.RowKit Go.Shelf
structure Reg3 (x y z : Nat) (W w' : World) : Prop where
  os : w'.os = W.os
  tape : w'.tape = W.tape
  output : w'.output = W.output
  size : W.heap.size ≤ w'.heap.size
  block : ∀ k, k < W.heap.size → k ≠ x → k ≠ y → k ≠ z → w'.heap[k]? = W.heap[k]?
  some : ∀ b o, b < W.heap.size → (w'.cell? ⟨b, o, none⟩).isSome = (W.cell? ⟨b, o, none⟩).isSome
  frozen : ∀ b o, b < W.heap.size → w'.frozen? ⟨b, o, none⟩ = W.frozen? ⟨b, o, none⟩
theorem Reg3.refl (x y z : Nat) (W : World) : Reg3 x y z W W := ⟨rfl, rfl, rfl, Nat.le_refl _, fun _ _ _ _ _ => rfl, fun _ _ _ => rfl, fun _ _ _ => rfl⟩
theorem Reg3.cells {x y z : Nat} {W w1 : World} (h : Reg3 x y z W w1) : ∀ b o, b < W.heap.size → b ≠ x → b ≠ y → b ≠ z → w1.cell? ⟨b, o, none⟩ = W.cell? ⟨b, o, none⟩ := fun b o hb hx hy hz => World.cell?_of_block (w := W) (a := ⟨b, o, none⟩) (h.block b hb hx hy hz)
theorem Reg3.drew {x y z : Nat} {W w1 : World} (h : Reg3 x y z W w1) : Reg3 x y z W w1.drew :=
  ⟨h.os, h.tape, h.output, h.size, h.block, fun b o hb => by rw [World.cell?_drew]; exact h.some b o hb, fun b o hb => by rw [World.frozen?_drew]; exact h.frozen b o hb⟩
theorem Reg3.call {x y z : Nat} {W w1 w2 : World} (h : Reg3 x y z W w1) (hb : Below w1.heap.size w1 w2) : Reg3 x y z W w2 :=
  ⟨hb.os.trans h.os, hb.tape.trans h.tape, hb.output.trans h.output, Nat.le_trans h.size hb.size, fun k hk hx hy hz => (hb.block k (Nat.lt_of_lt_of_le hk h.size)).trans (h.block k hk hx hy hz),
    fun b o hw => by rw [hb.cell (p := ⟨b, o, none⟩) (Nat.lt_of_lt_of_le hw h.size)]; exact h.some b o hw, fun b o hw => by rw [hb.frozen (p := ⟨b, o, none⟩) (Nat.lt_of_lt_of_le hw h.size)]; exact h.frozen b o hw⟩
theorem Reg3.alloc {x y z : Nat} {W w1 : World} (h : Reg3 x y z W w1) (o : Obj) : Reg3 x y z W (w1.alloc o) :=
  h.call ((Below.refl _ _).alloc (Nat.le_refl _) o)
theorem Reg3.setCell {x y z : Nat} {W w1 : World} (h : Reg3 x y z W w1) {p : Addr} (hp : p.block = x ∨ p.block = y ∨ p.block = z ∨ W.heap.size ≤ p.block) (v : Value) : Reg3 x y z W (w1.setCell p v) :=
  ⟨h.os, h.tape, h.output, by rw [World.size_setCell]; exact h.size, fun k hk hx hy hz => (Below.heap_setCell _ _ _ _ (by omega)).trans (h.block k hk hx hy hz),
    fun b o hw => by rw [isSome_setCell]; exact h.some b o hw, fun b o hw => by rw [World.frozen?_setCell]; exact h.frozen b o hw⟩
theorem Reg3.drewN {x y z : Nat} {W w1 : World} (h : Reg3 x y z W w1) (n : Nat) : Reg3 x y z W (w1.drewN n) :=
  ⟨h.os, h.tape, h.output, h.size, h.block, fun b o hb => h.some b o hb, fun b o hb => h.frozen b o hb⟩
theorem Reg3.drewN2 (x y z : Nat) (W : World) (n m : Nat) : Reg3 x y z (W.drewN n) (W.drewN m) := ⟨rfl, rfl, rfl, Nat.le_refl _, fun _ _ _ _ _ => rfl, fun _ _ _ => rfl, fun _ _ _ => rfl⟩
theorem Reg3.out {x y z : Nat} {w W w1 : World} (h : Reg3 x y z W w1) (h0 : Below w.heap.size w W) (hx : w.heap.size ≤ x) (hy : w.heap.size ≤ y) (hz : w.heap.size ≤ z) : Below w.heap.size w w1 :=
  ⟨h.os.trans h0.os, h.tape.trans h0.tape, h.output.trans h0.output, Nat.le_trans h0.size h.size, fun k hk => (h.block k (Nat.lt_of_lt_of_le hk h0.size) (by omega) (by omega) (by omega)).trans (h0.block k hk)⟩
structure St where
  (r1 r2 z1 z2 c1 c2 : Int)
def St.zero : St := ⟨0, 0, 0, 0, 0, 0⟩
def St.hull (s : St) (X Y lo hi : Int) : St := ⟨min s.r1 X, max s.r2 X, min s.z1 Y, max s.z2 Y, min s.c1 lo, max s.c2 hi⟩
def St.ok (s : St) : Bool := vld s.r1 s.r2 && (vld s.z1 s.z2 && vld s.c1 s.c2)
end
section
open Go.RowKit Go.Shelf
end
section
open Go.RowKit Go.Shelf
end
section
open Go.RowKit
theorem Sta.call1 {E : Cfg} {U : Snaps} {w w' : World} (h : Sta E U [] w) (hb : Below w.heap.size w w') : Sta E ((E.w.heap.size, w') :: U) [] w' := by
  have h' := h.ext hb
  refine ⟨h'.chg, h'.box, h'.apart, fun lo u hu => ?_⟩
  cases hu with
  | head => exact ⟨Nat.le_refl _, h'.chg.size, Nat.le_refl _, fun k _ hk => rfl, h'.chg.block, fun i b cs hi => by cases hi⟩
  | tail _ hu => exact h'.snap lo u hu
theorem Sta.big1 {n : Nat} {D : List Deferred} {w0 u w : World} {U : Snaps} {L : Boxes} {v : Value} {z : Int} (h : Sta ⟨n, D, w0, []⟩ U L w) (hu : (w0.heap.size, u) ∈ U) (hV : BigV u v z) : BigV w v z := by
  obtain ⟨A, m, cap, P, e, ⟨hl, hI⟩, h2⟩ := hV
  obtain ⟨s0, s1, s2, s3, s4, -⟩ := h.snap _ _ hu
  refine ⟨A, m, cap, P, e, ⟨hl, fun h0 => ?_⟩, h2⟩
  obtain ⟨b, o, e1, q1, q2, q3⟩ := hI h0
  refine ⟨b, o, e1, q1, Nat.lt_of_lt_of_le q2 s2, fun j hj => ?_⟩
  have hk : w.heap[b]? = u.heap[b]? := by
    rcases Nat.lt_or_ge b w0.heap.size with g | g
    · exact (h.chg.block b g (by simp)).trans (s4 b g (by simp)).symm
    · exact s3 b g q2
  rw [World.cell?_of_block (w := u) (w' := w) (a := ⟨b, _, none⟩) hk]; exact q3 j hj
end
end Go.Proofs.YtapldonpflgnfaaDoor
