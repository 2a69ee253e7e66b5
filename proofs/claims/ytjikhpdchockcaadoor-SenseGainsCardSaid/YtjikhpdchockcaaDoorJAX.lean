import Derived.Test.YtjikhpdchockcaaDoorJAP
import Derived.Test.YtjikhpdchockcaaDoorJAQ
import Derived.Test.YtjikhpdchockcaaDoorJAT
import Derived.Test.YtjikhpdchockcaaDoorJAV
import Derived.Test.YtjikhpdchockcaaDoorJAW
import Derived.Handy
import Derived.Outline
section
/- The specification of gains: a region that stores into two old blocks, and the exact ends of a pair's gains (ends), over this seat's translation. -/
namespace Go.Proofs.YtjikhpdchockcaaDoor
set_option linter.unusedVariables false
set_option linter.unusedSimpArgs false
open Go.RowKit Go.Shelf

/-- From W to w': every block of W but blocks x and y is as it was; these two stand, with their marks. -/
structure Reg2 (x y : Nat) (W w' : World) : Prop where
  os : w'.os = W.os
  tape : w'.tape = W.tape
  output : w'.output = W.output
  size : W.heap.size ≤ w'.heap.size
  block : ∀ k, k < W.heap.size → k ≠ x → k ≠ y → w'.heap[k]? = W.heap[k]?
  some : ∀ b o, b < W.heap.size → (w'.cell? ⟨b, o, none⟩).isSome = (W.cell? ⟨b, o, none⟩).isSome
  frozen : ∀ b o, b < W.heap.size → w'.frozen? ⟨b, o, none⟩ = W.frozen? ⟨b, o, none⟩
theorem Reg2.refl (x y : Nat) (W : World) : Reg2 x y W W := ⟨rfl, rfl, rfl, Nat.le_refl _, fun _ _ _ _ => rfl, fun _ _ _ => rfl, fun _ _ _ => rfl⟩
theorem Reg2.cells {x y : Nat} {W w1 : World} (h : Reg2 x y W w1) : ∀ b o, b < W.heap.size → b ≠ x → b ≠ y → w1.cell? ⟨b, o, none⟩ = W.cell? ⟨b, o, none⟩ := fun b o hb hx hy => World.cell?_of_block (w := W) (a := ⟨b, o, none⟩) (h.block b hb hx hy)
theorem Reg2.drew {x y : Nat} {W w1 : World} (h : Reg2 x y W w1) : Reg2 x y W w1.drew :=
  ⟨h.os, h.tape, h.output, h.size, h.block, fun b o hb => by rw [World.cell?_drew]; exact h.some b o hb, fun b o hb => by rw [World.frozen?_drew]; exact h.frozen b o hb⟩
theorem Reg2.call {x y : Nat} {W w1 w2 : World} (h : Reg2 x y W w1) (hb : Below w1.heap.size w1 w2) : Reg2 x y W w2 :=
  ⟨hb.os.trans h.os, hb.tape.trans h.tape, hb.output.trans h.output, Nat.le_trans h.size hb.size, fun k hk hx hy => (hb.block k (Nat.lt_of_lt_of_le hk h.size)).trans (h.block k hk hx hy),
    fun b o hw => by rw [hb.cell (p := ⟨b, o, none⟩) (Nat.lt_of_lt_of_le hw h.size)]; exact h.some b o hw, fun b o hw => by rw [hb.frozen (p := ⟨b, o, none⟩) (Nat.lt_of_lt_of_le hw h.size)]; exact h.frozen b o hw⟩
theorem Reg2.alloc {x y : Nat} {W w1 : World} (h : Reg2 x y W w1) (o : Obj) : Reg2 x y W (w1.alloc o) :=
  h.call ((Below.refl _ _).alloc (Nat.le_refl _) o)
theorem Reg2.setCell {x y : Nat} {W w1 : World} (h : Reg2 x y W w1) {p : Addr} (hp : p.block = x ∨ p.block = y ∨ W.heap.size ≤ p.block) (v : Value) : Reg2 x y W (w1.setCell p v) :=
  ⟨h.os, h.tape, h.output, by rw [World.size_setCell]; exact h.size, fun k hk hx hy => (Below.heap_setCell _ _ _ _ (by omega)).trans (h.block k hk hx hy),
    fun b o hw => by rw [isSome_setCell]; exact h.some b o hw, fun b o hw => by rw [World.frozen?_setCell]; exact h.frozen b o hw⟩
theorem Reg2.drewN {x y : Nat} {W w1 : World} (h : Reg2 x y W w1) (n : Nat) : Reg2 x y W (w1.drewN n) :=
  ⟨h.os, h.tape, h.output, h.size, h.block, fun b o hb => h.some b o hb, fun b o hb => h.frozen b o hb⟩
theorem Reg2.drewN2 (x y : Nat) (W : World) (n m : Nat) : Reg2 x y (W.drewN n) (W.drewN m) := ⟨rfl, rfl, rfl, Nat.le_refl _, fun _ _ _ _ => rfl, fun _ _ _ => rfl, fun _ _ _ => rfl⟩

/-- Numbers whose digits lie from block base on. -/
structure Jb (base : Nat) (W : World) (bs : List (Value × Int)) : Prop where
  bigs : ∀ p ∈ bs, BigB W base p.1 p.2
theorem Jb.nil (base : Nat) (W : World) : Jb base W [] := ⟨fun p h => by cases h⟩
theorem Jb.call {base : Nat} {W W1 : World} {bs : List (Value × Int)} (h : Jb base W bs) (hb : Below W.heap.size W W1) : Jb base W1 bs := ⟨fun p hp => (h.bigs p hp).below hb⟩
theorem Jb.add {base : Nat} {W : World} {bs : List (Value × Int)} (h : Jb base W bs) {v : Value} {z : Int} (hv : BigB W base v z) : Jb base W ((v, z) :: bs) :=
  ⟨fun p hp => (by
    rcases List.mem_cons.1 hp with rfl | hp
    · exact hv
    · exact h.bigs p hp)⟩

/-- Two numbers and a bool. -/
def EndsP (a b : Int) (ok : Bool) (w : World) (e : Ending) (w' : World) : Prop :=
  ∃ u v, e = .returned (.tuple #[u, v, .bool ok]) ∧ BigB w' w.heap.size u a ∧ BigB w' w.heap.size v b ∧ Below w.heap.size w w'

section
variable {w0 W : World} {bs : List (Value × Int)} {xs : List Nat} {x y : Nat} {a b : Int} {A B : Option Addr} {n c m d : Nat}
theorem Jn.noOld (h : Jn w0 W bs xs) (hx : w0.heap[x]? = some zeroBig) : NoInt W x := fun o k e => by
  have h0 := (Array.getElem?_eq_some_iff.1 hx).1
  have h1 := (h.below.block x h0).trans hx
  simp [World.cell?, h1] at e
  rcases o with _ | _ | o <;> simp at e
theorem Jn.oldBox (h : Jn w0 W bs xs) (hx : w0.heap[x]? = some zeroBig) : W.cell? ⟨x, 0, none⟩ = some (.bool false) ∧ W.cell? ⟨x, 1, none⟩ = some (.slice none 0 0) ∧ W.frozen? ⟨x, 0, none⟩ = false ∧ W.frozen? ⟨x, 1, none⟩ = false ∧ x < W.heap.size := by
  have h0 := (Array.getElem?_eq_some_iff.1 hx).1
  have h1 := (h.below.block x h0).trans hx
  exact ⟨by simp [World.cell?, h1], by simp [World.cell?, h1], by simp [World.frozen?, h1], by simp [World.frozen?, h1], (Array.getElem?_eq_some_iff.1 h1).1⟩

/-- The world behind the stores of two numbers into their boxes. -/
abbrev put2 (W : World) (x y : Nat) (na : Bool) (A : Option Addr) (n c : Nat) (nb : Bool) (B : Option Addr) (m d : Nat) : World :=
  (((W.setCell ⟨x, 0, none⟩ (.bool na)).setCell ⟨x, 1, none⟩ (.slice A n c)).setCell ⟨y, 0, none⟩ (.bool nb)).setCell ⟨y, 1, none⟩ (.slice B m d)

theorem put2_facts {na nb : Bool} (hx : (W.cell? ⟨x, 0, none⟩).isSome = true) (hx1 : (W.cell? ⟨x, 1, none⟩).isSome = true) (hy : (W.cell? ⟨y, 0, none⟩).isSome = true) (hy1 : (W.cell? ⟨y, 1, none⟩).isSome = true) (hxy : x ≠ y) (nx : NoInt W x) (ny : NoInt W y) :
    (put2 W x y na A n c nb B m d).cell? ⟨x, 0, none⟩ = some (.bool na) ∧ (put2 W x y na A n c nb B m d).cell? ⟨x, 1, none⟩ = some (.slice A n c) ∧ (put2 W x y na A n c nb B m d).cell? ⟨y, 0, none⟩ = some (.bool nb) ∧ (put2 W x y na A n c nb B m d).cell? ⟨y, 1, none⟩ = some (.slice B m d) ∧
    (∀ v z, BigV W v z → BigV (put2 W x y na A n c nb B m d) v z) ∧ (∀ k, k ≤ x → k ≤ y → Below k W (put2 W x y na A n c nb B m d)) := by
  have nbl : ∀ (q : Bool) (k : Int), Value.bool q ≠ .int .i64 k := fun q k e => by cases e
  have ns : ∀ (q : Option Addr) (i j : Nat) (k : Int), Value.slice q i j ≠ .int .i64 k := fun q i j k e => by cases e
  have hyx := hxy.symm
  refine ⟨by unfold put2; go_simp, by unfold put2; go_simp, by unfold put2; go_simp, by unfold put2; go_simp, fun v z hv => ?_, fun k hkx hky => ?_⟩
  · exact (((hv.set 0 (.bool na) nx).set 1 (.slice A n c) (nx.set _ _ (nbl _))).set 0 (.bool nb) ((ny.set _ _ (nbl _)).set _ _ (ns _ _ _))).set 1 (.slice B m d) (((ny.set _ _ (nbl _)).set _ _ (ns _ _ _)).set _ _ (nbl _))
  · exact ((((Below.refl k W).setCell (p := ⟨x, 0, none⟩) hkx _).setCell (p := ⟨x, 1, none⟩) hkx _).setCell (p := ⟨y, 0, none⟩) hky _).setCell (p := ⟨y, 1, none⟩) hky _

theorem ends_fin {na nb : Bool} {w : World} {base : Nat} {cs : List (Value × Int)} (h : Jn w0 W bs xs) (hj : Jb base W cs) (hx : x < base) (hy : y < base)
    (ma : ((.agg #[.bool na, .slice A n c] : Value), a) ∈ cs) (mb : ((.agg #[.bool nb, .slice B m d] : Value), b) ∈ cs)
    (hB : Below w.heap.size w w0) (hxw : w.heap.size ≤ x) (hyw : w.heap.size ≤ y) (ok : Bool) :
    EndsP a b ok w (.returned (.tuple #[.agg #[.bool na, .slice A n c], .agg #[.bool nb, .slice B m d], .bool ok])) (put2 W x y na A n c nb B m d) := by
  have f : ∀ {v : Value} {z : Int}, BigB W base v z → BigB (put2 W x y na A n c nb B m d) w.heap.size v z := fun hv =>
    ((((hv.setCell (p := ⟨x, 0, none⟩) hx (.bool na)).setCell (p := ⟨x, 1, none⟩) hx (.slice A n c)).setCell (p := ⟨y, 0, none⟩) hy (.bool nb)).setCell (p := ⟨y, 1, none⟩) hy (.slice B m d)).mono (by omega)
  have hB1 := hB.trans (h.below.mono hB.size)
  exact ⟨_, _, rfl, f (hj.bigs _ ma), f (hj.bigs _ mb), (((hB1.setCell (p := ⟨x, 0, none⟩) hxw _).setCell (p := ⟨x, 1, none⟩) hxw _).setCell (p := ⟨y, 0, none⟩) hyw _).setCell (p := ⟨y, 1, none⟩) hyw _⟩

theorem ends_res {na nb : Bool} {fn : Func} {p q u : Tmp} (hr : fn.results = #[.cell p 99, .cell q 99, .tmp u]) (tmps : Array Value) (ok : Bool) (h : Jn w0 W bs xs) (hx : w0.heap[x]? = some zeroBig) (hy : w0.heap[y]? = some zeroBig) (hxy : x ≠ y)
    (hp : tmps.getD p undef = .pointer (some ⟨x, 0, none⟩)) (hq : tmps.getD q undef = .pointer (some ⟨y, 0, none⟩)) (hu : tmps.getD u undef = .bool ok) :
    (results fn tmps).run Tryd.prog (put2 W x y na A n c nb B m d) = .ok (.tuple #[.agg #[.bool na, .slice A n c], .agg #[.bool nb, .slice B m d], .bool ok]) (put2 W x y na A n c nb B m d) := by
  obtain ⟨x0, x1, x2, x3, x4⟩ := h.oldBox hx
  obtain ⟨y0, y1, y2, y3, y4⟩ := h.oldBox hy
  have hyx := hxy.symm
  have e0 : (put2 W x y na A n c nb B m d).cell? ⟨x, 0, none⟩ = some (.bool na) := by unfold put2; go_simp
  have e1 : (put2 W x y na A n c nb B m d).cell? ⟨x, 1, none⟩ = some (.slice A n c) := by unfold put2; go_simp
  have e2 : (put2 W x y na A n c nb B m d).cell? ⟨y, 0, none⟩ = some (.bool nb) := by unfold put2; go_simp
  have e3 : (put2 W x y na A n c nb B m d).cell? ⟨y, 1, none⟩ = some (.slice B m d) := by unfold put2; go_simp
  generalize put2 W x y na A n c nb B m d = V at *
  have hp' : tmps[p]?.getD undef = .pointer (some ⟨x, 0, none⟩) := by simpa using hp
  have hq' : tmps[q]?.getD undef = .pointer (some ⟨y, 0, none⟩) := by simpa using hq
  have hu' : tmps[u]?.getD undef = .bool ok := by simpa using hu
  simp [results, hr, hp', hq', hu', go_sem, e0, e1, e2, e3]
end

end Go.Proofs.YtjikhpdchockcaaDoor
end
section
/- The specification of gains: the contract of ends, over this seat's translation (written by mk_gai.py). -/
namespace Go.Proofs.YtjikhpdchockcaaDoor
set_option linter.unusedVariables false
set_option linter.unusedSimpArgs false
open Go.RowKit Go.Shelf

theorem pw_ten : pw 10 = 10000000000000000000000000000000000000000 := by decide
theorem pw_eight : pw 8 = 100000000000000000000000000000000 := by decide

/-- The world behind the making of the boxes of ends. -/
abbrev endsW (w : World) (v lo hi : Int) : World := ((w.alloc (.cells #[.int .i64 v, .int .i64 lo, .int .i64 hi] 61)).alloc zeroBig).alloc zeroBig
structure EndsF (w : World) (v lo hi : Int) (W0 : World) : Prop where
  p0 : W0.cell? ⟨w.heap.size, 0, none⟩ = some (.int .i64 v)
  p1 : W0.cell? ⟨w.heap.size, 1, none⟩ = some (.int .i64 lo)
  p2 : W0.cell? ⟨w.heap.size, 2, none⟩ = some (.int .i64 hi)
  b1 : W0.heap[w.heap.size + 1]? = some zeroBig
  b2 : W0.heap[w.heap.size + 1 + 1]? = some zeroBig
  below : Below w.heap.size w W0
  size : w.heap.size + 1 + 1 < W0.heap.size
theorem endsF_of (w : World) (v lo hi : Int) : EndsF w v lo hi (endsW w v lo hi) := by
  have h1 := World.alloc_heap_new (w.alloc (.cells #[.int .i64 v, .int .i64 lo, .int .i64 hi] 61)) zeroBig
  have h2 := World.alloc_heap_new ((w.alloc (.cells #[.int .i64 v, .int .i64 lo, .int .i64 hi] 61)).alloc zeroBig) zeroBig
  simp only [World.size_alloc] at h1 h2
  refine ⟨by unfold endsW; go_simp, by unfold endsW; go_simp, by unfold endsW; go_simp, ?_, h2, by unfold endsW; (repeat first | with_reducible exact Below.refl _ _ | with_reducible assumption | (with_reducible refine Below.setCell ?_ ?_ _; rotate_left; exact (by first | omega | (simp; done) | (simp; omega))) | (with_reducible refine Below.alloc ?_ ?_ _; rotate_left; exact (by first | omega | (simp; done) | (simp; omega))) | with_reducible refine Below.drew ?_ | with_reducible refine Below_drewN ?_ _), by unfold endsW; simp⟩
  exact (((Below.refl _ _).alloc (Nat.le_refl _) zeroBig).block _ (by simp)).trans h1
theorem EndsF.below' {w : World} {v lo hi : Int} {W0 W : World} (h : EndsF w v lo hi W0) (hb : Below W0.heap.size W0 W) : EndsF w v lo hi W :=
  have hs := h.size
  ⟨(hb.cell (p := ⟨_, 0, none⟩) (by show w.heap.size < _; omega)).trans h.p0, (hb.cell (p := ⟨_, 1, none⟩) (by show w.heap.size < _; omega)).trans h.p1, (hb.cell (p := ⟨_, 2, none⟩) (by show w.heap.size < _; omega)).trans h.p2,
   (hb.block _ (by omega)).trans h.b1, (hb.block _ (by omega)).trans h.b2, h.below.trans (hb.mono h.below.size), Nat.lt_of_lt_of_le hs hb.size⟩

set_option maxRecDepth 100000 in
set_option maxHeartbeats 16000000 in
theorem ends_zero (lo hi : Int) (w : World) : Calls Tryd.prog 50 #[Pr (0, lo, hi)] w (EndsP (-1000000000) 1000000000 (cont lo hi 0) w) := by
  obtain ⟨W0, hW⟩ : ∃ W0, W0 = endsW w 0 lo hi := ⟨_, rfl⟩
  have HF : Hid (EndsF w 0 lo hi W0) := Lib.hid (hW ▸ endsF_of w 0 lo hi)
  have HW := Lib.hid hW
  clear hW
  go_enter Tryd.func50, Tryd.ntmps50
  go_upto_region 2 with fail
  rw [show ((w.alloc (.cells #[.int .i64 0, .int .i64 lo, .int .i64 hi] 61)).alloc (.cells #[.bool false, .slice none 0 0] 99)).alloc (.cells #[.bool false, .slice none 0 0] 99) = W0 from HW.out.symm]
  obtain ⟨p0, p1, p2, b1, b2, hBd, hsz⟩ := HF.out
  clear HW HF
  clear p0
  obtain ⟨x0, x1, x2, x3, x4⟩ := (Jn.nil W0).oldBox b1
  obtain ⟨y0, y1, y2, y3, y4⟩ := (Jn.nil W0).oldBox b2
  have HJ := Jn.nil W0.drew
  have HB := Jb.nil W0.drew.heap.size W0.drew
  have BB1 := x4
  have BB2 := y4
  have HS : Hid (∀ w' : World, Reg2 (w.heap.size + 1) (w.heap.size + 1 + 1) (W0) w' → (Reg2 (w.heap.size + 1) (w.heap.size + 1 + 1) (W0) w' ∧ w'.cell? ⟨w.heap.size, 1, none⟩ = some (.int .i64 lo) ∧ w'.cell? ⟨w.heap.size, 2, none⟩ = some (.int .i64 hi) ∧ w'.cell? ⟨w.heap.size + 1, 0, none⟩ = some (cur w' ⟨w.heap.size + 1, 0, none⟩) ∧ w'.frozen? ⟨w.heap.size + 1, 0, none⟩ = false ∧ w'.cell? ⟨w.heap.size + 1, 1, none⟩ = some (cur w' ⟨w.heap.size + 1, 1, none⟩) ∧ w'.frozen? ⟨w.heap.size + 1, 1, none⟩ = false ∧ w'.cell? ⟨w.heap.size + 1 + 1, 0, none⟩ = some (cur w' ⟨w.heap.size + 1 + 1, 0, none⟩) ∧ w'.frozen? ⟨w.heap.size + 1 + 1, 0, none⟩ = false ∧ w'.cell? ⟨w.heap.size + 1 + 1, 1, none⟩ = some (cur w' ⟨w.heap.size + 1 + 1, 1, none⟩) ∧ w'.frozen? ⟨w.heap.size + 1 + 1, 1, none⟩ = false)) := (fun w' h => by (have hc := h.cells; have hs := h.some; have hf := h.frozen; refine ⟨h, ?_⟩; (try simp only [World.size_alloc, World.size_setCell, size_drew, size_drewN] at hc hs hf); first | (simp (disch := omega) only [hc, hs, hf, cur_iff]; (try go_simp); done) | (simp (disch := first | omega | (simp; done)) only [hc, hs, hf, cur_iff]; (try go_simp); done) | (simp (maxDischargeDepth := 4) [hc, hs, hf, cur_iff, go_sem]; done) | (go_simp; done) | (simp (maxDischargeDepth := 4) [hc, hs, hf, cur_iff, go_sem]; go_simp))); go_region_held3 (fun w' => Reg2 (w.heap.size + 1) (w.heap.size + 1 + 1) (W0) w' ∧ w'.cell? ⟨w.heap.size, 1, none⟩ = some (.int .i64 lo) ∧ w'.cell? ⟨w.heap.size, 2, none⟩ = some (.int .i64 hi) ∧ w'.cell? ⟨w.heap.size + 1, 0, none⟩ = some (cur w' ⟨w.heap.size + 1, 0, none⟩) ∧ w'.frozen? ⟨w.heap.size + 1, 0, none⟩ = false ∧ w'.cell? ⟨w.heap.size + 1, 1, none⟩ = some (cur w' ⟨w.heap.size + 1, 1, none⟩) ∧ w'.frozen? ⟨w.heap.size + 1, 1, none⟩ = false ∧ w'.cell? ⟨w.heap.size + 1 + 1, 0, none⟩ = some (cur w' ⟨w.heap.size + 1 + 1, 0, none⟩) ∧ w'.frozen? ⟨w.heap.size + 1 + 1, 0, none⟩ = false ∧ w'.cell? ⟨w.heap.size + 1 + 1, 1, none⟩ = some (cur w' ⟨w.heap.size + 1 + 1, 1, none⟩) ∧ w'.frozen? ⟨w.heap.size + 1 + 1, 1, none⟩ = false) (exact HS.out _ (by (repeat first | with_reducible exact Reg2.refl _ _ _ | with_reducible exact Reg2.drewN2 _ _ _ _ _ | with_reducible exact (‹Reg2 _ _ _ _ ∧ _›).1 | (with_reducible refine Reg2.setCell ?_ ?_ _; rotate_left; exact (by first | omega | ((try simp only [World.size_alloc, World.size_setCell, size_drew, size_drewN]); omega) | (simp; done) | (simp; omega))) | with_reducible refine Reg2.alloc ?_ _ | with_reducible refine Reg2.drew ?_ | with_reducible refine Reg2.drewN ?_ _ | (with_reducible apply Reg2.call; rotate_left; with_reducible assumption)))) (first | (go_at_call 93; refine (of_new _ _ (by omega) (by omega)).mono ?_; rintro e w1 ⟨u1, rfl, V1, hb⟩; obtain ⟨A1, n1, c1, hu⟩ := V1.big.formS; subst hu; have HB := (HB.call hb).add (V1.mono HJ.below.size); have HJ := HJ.call hb; clear V1; (first | (with_reducible have hk := Nat.lt_of_lt_of_le (size_alloc_lt _ _) hb.size) | (with_reducible have hk := Nat.lt_of_lt_of_le (size_alloc_drew_lt _ _) hb.size) | (with_reducible have hk := Nat.lt_of_lt_of_le hk hb.size) | skip); (try simp only [World.size_alloc, World.size_setCell, size_drew, size_drewN] at hk); obtain ⟨hc, hf⟩ := bcell hb; have hs := hb.size; (try simp only [World.size_alloc, World.size_setCell, size_drew, size_drewN] at hs)) | (go_at_call 94; refine (rcontains_any _ _ _ _).mono ?_; rintro e w1 ⟨rfl, hb⟩; have HB := HB.call hb; have HJ := HJ.call hb; (first | (with_reducible have hk := Nat.lt_of_lt_of_le (size_alloc_lt _ _) hb.size) | (with_reducible have hk := Nat.lt_of_lt_of_le (size_alloc_drew_lt _ _) hb.size) | (with_reducible have hk := Nat.lt_of_lt_of_le hk hb.size) | skip); (try simp only [World.size_alloc, World.size_setCell, size_drew, size_drewN] at hk); obtain ⟨hc, hf⟩ := bcell hb; have hs := hb.size; (try simp only [World.size_alloc, World.size_setCell, size_drew, size_drewN] at hs)))
  all_goals go_wp2_with fail
  all_goals simp only [show decide ((-1000000000 : Int) < 0) = true from rfl, show decide ((1000000000 : Int) < 0) = false from rfl] at HJ HB
  all_goals exact bodyPost_ret (ends_res Tryd.results50 _ _ HJ b1 b2 (by omega) rfl rfl rfl) rfl (ends_fin HJ HB (by simpa using BB1) (by simpa using BB2) (by simp) (by simp) hBd.drew (by omega) (by omega) _)

end Go.Proofs.YtjikhpdchockcaaDoor
end
