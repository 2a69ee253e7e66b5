import Derived.Test.YtdlmffinpoflnaaDoorJAN
import Derived.Test.YtdlmffinpoflnaaDoorJAR
import Derived.Handy
import Derived.Outline
section
/- The law SenseTrue: the ends of a reading as whole numbers of any length (lo, hi := ..), whatever order Go takes, over this seat's translation. -/
namespace Go.Proofs.YtdlmffinpoflnaaDoor
set_option linter.unusedVariables false
set_option linter.unusedSimpArgs false
open Go.RowKit Go.Shelf

theorem pw_sixteen : pw 16 = 10000000000000000000000000000000000000000000000000000000000000000 := by decide
theorem small_pw {z : Int} (h0 : -1000000000000000000 ≤ z) (h1 : z ≤ 1000000000000000000) : max z (-z) < pw 16 := by rw [pw_sixteen]; omega

theorem pw_32 : pw 32 = 100000000000000000000000000000000000000000000000000000000000000000000000000000000000000000000000000000000000000000000000000000000 := by decide
theorem big32 {v g : Int} (v0 : -1000000000000000 ≤ v) (v1 : v ≤ 1000000000000000) (g0 : -1000000000 ≤ g) (g1 : g ≤ 1000000000) : max (v * g) (-(v * g)) < pw 32 := by
  have h := mul_fit v g v0 (by omega) v1 (by omega)
  have := pw_32
  omega

abbrev zeroBig : Obj := .cells #[.bool false, .slice none 0 0] 64
/-- What has been made so far: numbers, and boxes that hold nothing yet. -/
structure Jn (w0 W : World) (bs : List (Value × Int)) (xs : List Nat) : Prop where
  below : Below w0.heap.size w0 W
  bigs : ∀ p ∈ bs, BigV W p.1 p.2
  boxes : ∀ x ∈ xs, w0.heap.size ≤ x ∧ W.heap[x]? = some zeroBig
  nodup : xs.Nodup
theorem Jn.nil (W : World) : Jn W W [] [] := ⟨Below.refl _ _, fun p h => (by cases h), fun p h => (by cases h), List.nodup_nil⟩
theorem Jn.call {w0 W W1 : World} {bs : List (Value × Int)} {xs : List Nat} (h : Jn w0 W bs xs) (hb : Below W.heap.size W W1) : Jn w0 W1 bs xs :=
  ⟨h.below.trans (hb.mono h.below.size), fun p hp => (h.bigs p hp).below hb, fun x hx => (by
    obtain ⟨h0, h1⟩ := h.boxes x hx
    refine ⟨h0, ?_⟩
    rw [hb.block x (Array.getElem?_eq_some_iff.1 h1).1]; exact h1), h.nodup⟩
theorem Jn.alloc {w0 W : World} {bs : List (Value × Int)} {xs : List Nat} (h : Jn w0 W bs xs) : Jn w0 (W.alloc zeroBig) bs (W.heap.size :: xs) := by
  have h1 := h.call ((Below.refl W.heap.size W).alloc (Nat.le_refl _) zeroBig)
  refine ⟨h1.below, h1.bigs, fun x hx => ?_, List.nodup_cons.2 ⟨fun hx => ?_, h.nodup⟩⟩
  · rcases List.mem_cons.1 hx with rfl | hx
    · exact ⟨h.below.size, World.alloc_heap_new W _⟩
    · exact h1.boxes x hx
  · have := (Array.getElem?_eq_some_iff.1 (h.boxes _ hx).2).1
    omega
theorem Jn.add {w0 W : World} {bs : List (Value × Int)} {xs : List Nat} (h : Jn w0 W bs xs) {v : Value} {z : Int} (hv : BigV W v z) : Jn w0 W ((v, z) :: bs) xs :=
  ⟨h.below, fun p hp => (by
    rcases List.mem_cons.1 hp with rfl | hp
    · exact hv
    · exact h.bigs p hp), h.boxes, h.nodup⟩
theorem Jn.fst {w0 W : World} {v : Value} {z : Int} {bs : List (Value × Int)} {xs : List Nat} (h : Jn w0 W ((v, z) :: bs) xs) : BigV W v z := h.bigs (v, z) (List.mem_cons_self ..)
theorem Jn.snd {w0 W : World} {p : Value × Int} {v : Value} {z : Int} {bs : List (Value × Int)} {xs : List Nat} (h : Jn w0 W (p :: (v, z) :: bs) xs) : BigV W v z := h.bigs (v, z) (List.mem_cons_of_mem _ (List.mem_cons_self ..))
theorem Jn.box {w0 W : World} {bs : List (Value × Int)} {xs : List Nat} (h : Jn w0 W bs xs) {x : Nat} (hx : x ∈ xs) :
    W.cell? ⟨x, 0, none⟩ = some (.bool false) ∧ W.cell? ⟨x, 1, none⟩ = some (.slice none 0 0) ∧ W.frozen? ⟨x, 0, none⟩ = false ∧ W.frozen? ⟨x, 1, none⟩ = false ∧ x < W.heap.size := by
  have h1 := (h.boxes x hx).2
  exact ⟨by simp [World.cell?, h1], by simp [World.cell?, h1], by simp [World.frozen?, h1], by simp [World.frozen?, h1], (Array.getElem?_eq_some_iff.1 h1).1⟩
theorem Jn.box0 {w0 W : World} {bs : List (Value × Int)} {x : Nat} {xs : List Nat} (h : Jn w0 W bs (x :: xs)) : W.cell? ⟨x, 0, none⟩ = some (.bool false) ∧ W.cell? ⟨x, 1, none⟩ = some (.slice none 0 0) ∧ W.frozen? ⟨x, 0, none⟩ = false ∧ W.frozen? ⟨x, 1, none⟩ = false ∧ x < W.heap.size := h.box (List.mem_cons_self ..)
theorem Jn.box1 {w0 W : World} {bs : List (Value × Int)} {x y : Nat} {xs : List Nat} (h : Jn w0 W bs (x :: y :: xs)) : W.cell? ⟨y, 0, none⟩ = some (.bool false) ∧ W.cell? ⟨y, 1, none⟩ = some (.slice none 0 0) ∧ W.frozen? ⟨y, 0, none⟩ = false ∧ W.frozen? ⟨y, 1, none⟩ = false ∧ y < W.heap.size := h.box (List.mem_cons_of_mem _ (List.mem_cons_self ..))

theorem Jn.ne {w0 W : World} {bs : List (Value × Int)} {x y : Nat} {xs : List Nat} (h : Jn w0 W bs (x :: y :: xs)) : x ≠ y := fun e => by
  have := (List.nodup_cons.1 h.nodup).1
  exact this (by rw [e]; exact List.mem_cons_self ..)

/-- Block x holds no whole number. -/
def NoInt (W : World) (x : Nat) : Prop := ∀ o k, W.cell? ⟨x, o, none⟩ ≠ some (.int .i64 k)
theorem Jn.noInt {w0 W : World} {bs : List (Value × Int)} {xs : List Nat} (h : Jn w0 W bs xs) {x : Nat} (hx : x ∈ xs) : NoInt W x := fun o k e => by
  have h1 := (h.boxes x hx).2
  simp [World.cell?, h1] at e
  rcases o with _ | _ | o <;> simp at e
theorem NoInt.set {W : World} {x : Nat} (h : NoInt W x) (p : Addr) (v : Value) (hv : ∀ k, v ≠ .int .i64 k) : NoInt (W.setCell p v) x := fun o k e => by
  by_cases hp : p = ⟨x, o, none⟩
  · subst hp
    have h1 := isSome_setCell W ⟨x, o, none⟩ ⟨x, o, none⟩ v
    rw [e] at h1
    have h2 := World.cell?_setCell_same' W ⟨x, o, none⟩ v h1.symm
    rw [h2] at e
    exact hv k (Option.some.inj e)
  · rw [World.cell?_setCell_other _ _ _ _ hp] at e
    exact h o k e

/-- A Big's form. -/
theorem BigV.form {W : World} {v : Value} {z : Int} (h : BigV W v z) : ∃ (A : Option Addr) (n c : Nat), v = .agg #[.bool (decide (z < 0)), .slice A n c] := by
  obtain ⟨A, n, c, P, e, _⟩ := h
  exact ⟨A, n, c, e⟩

/-- The digits lie in no box: so a store into a box leaves the number. -/
theorem BigV.set {W : World} {v : Value} {z : Int} (h : BigV W v z) {x : Nat} (i : Nat) (u : Value) (hx : ∀ o k, W.cell? ⟨x, o, none⟩ ≠ some (.int .i64 k)) : BigV (W.setCell ⟨x, i, none⟩ u) v z := by
  obtain ⟨A, n, c, P, e, ⟨h1, h2⟩, h3⟩ := h
  refine ⟨A, n, c, P, e, ⟨h1, fun h0 => ?_⟩, h3⟩
  obtain ⟨b, o, hA, hb0, hb, hc⟩ := h2 h0
  refine ⟨b, o, hA, hb0, by rw [World.size_setCell]; exact hb, fun j hj => ?_⟩
  rw [World.cell?_setCell_other _ _ _ _ (by intro e; injection e with e1 e2; subst e1; exact hx _ _ (hc j hj))]
  exact hc j hj

/-- The two numbers, behind their stores. -/
structure Fin2 (w0 W : World) (ul : Value) (a : Int) (uh : Value) (b : Int) : Prop where
  lo : BigV W ul a
  hi : BigV W uh b
  below : Below w0.heap.size w0 W
theorem Fin2.of {w0 W : World} {ul uh : Value} {a b : Int} {p1 p2 : Value × Int} {bs : List (Value × Int)} {xs : List Nat} (h : Jn w0.drew W ((uh, b) :: p1 :: p2 :: (ul, a) :: bs) xs) : Fin2 w0 W ul a uh b :=
  ⟨h.bigs (ul, a) (by simp), h.bigs (uh, b) (by simp), ((Below.refl _ w0).drew).trans h.below⟩
theorem Fin2.alloc {w0 W : World} {ul uh : Value} {a b : Int} (h : Fin2 w0 W ul a uh b) (o : Obj) : Fin2 w0 (W.alloc o) ul a uh b :=
  ⟨h.lo.below ((Below.refl _ _).alloc (Nat.le_refl _) _), h.hi.below ((Below.refl _ _).alloc (Nat.le_refl _) _), h.below.alloc h.below.size _⟩
theorem Fin2.set {w0 W : World} {ul uh : Value} {a b : Int} (h : Fin2 w0 W ul a uh b) {x i : Nat} {v : Value} (hx : NoInt W x) (h0 : w0.heap.size ≤ x) : Fin2 w0 (W.setCell ⟨x, i, none⟩ v) ul a uh b :=
  ⟨h.lo.set i v hx, h.hi.set i v hx, h.below.setCell (p := ⟨x, i, none⟩) h0 _⟩

def LoHi (w0 : World) (a b : Int) (s9 s10 : Value) (wx : World) : Prop := ∃ (x y : Nat) (A B : Option Addr) (n m c d : Nat), s9 = .pointer (some ⟨x, 0, none⟩) ∧ s10 = .pointer (some ⟨y, 0, none⟩) ∧
  wx.cell? ⟨x, 0, none⟩ = some (.bool (decide (a < 0))) ∧ wx.cell? ⟨x, 1, none⟩ = some (.slice A n c) ∧ wx.cell? ⟨y, 0, none⟩ = some (.bool (decide (b < 0))) ∧ wx.cell? ⟨y, 1, none⟩ = some (.slice B m d) ∧
  BigV wx (.agg #[.bool (decide (a < 0)), .slice A n c]) a ∧ BigV wx (.agg #[.bool (decide (b < 0)), .slice B m d]) b ∧ Below w0.heap.size w0 wx ∧ x < wx.heap.size ∧ y < wx.heap.size

section
variable {w0 W : World} {a b : Int} {x y : Nat} {A B : Option Addr} {n m c d : Nat} {p1 p2 : Value × Int} {bs : List (Value × Int)} {xs : List Nat}
abbrev Jn2 (w0 W : World) (a b : Int) (A B : Option Addr) (n m c d : Nat) (p1 p2 : Value × Int) (bs : List (Value × Int)) (xs : List Nat) : Prop :=
  Jn w0.drew W ((.agg #[.bool (decide (b < 0)), .slice B m d], b) :: p1 :: p2 :: (.agg #[.bool (decide (a < 0)), .slice A n c], a) :: bs) xs

theorem LoHi.ss (h : Jn2 w0 W a b A B n m c d p1 p2 bs xs) (hx : x ∈ xs) (hy : y ∈ xs) (hn : x ≠ y) :
    LoHi w0 a b (.pointer (some ⟨x, 0, none⟩)) (.pointer (some ⟨y, 0, none⟩)) ((((W.setCell ⟨x, 0, none⟩ (.bool (decide (a < 0)))).setCell ⟨x, 1, none⟩ (.slice A n c)).setCell ⟨y, 0, none⟩ (.bool (decide (b < 0)))).setCell ⟨y, 1, none⟩ (.slice B m d)) := by
  obtain ⟨x0, x1, x2, x3, x4⟩ := h.box hx
  obtain ⟨y0, y1, y2, y3, y4⟩ := h.box hy
  have hn2 := hn.symm
  have nb : ∀ (q : Bool) (k : Int), Value.bool q ≠ .int .i64 k := fun q k e => by cases e
  have ns : ∀ (q : Option Addr) (i j : Nat) (k : Int), Value.slice q i j ≠ .int .i64 k := fun q i j k e => by cases e
  have F := (((((Fin2.of h).set (i := 0) (v := .bool (decide (a < 0))) (h.noInt hx) (h.boxes _ hx).1).set (i := 1) (v := .slice A n c) ((h.noInt hx).set _ _ (nb _)) (h.boxes _ hx).1).set (i := 0) (v := .bool (decide (b < 0))) (((h.noInt hy).set _ _ (nb _)).set _ _ (ns _ _ _)) (h.boxes _ hy).1).set (i := 1) (v := .slice B m d) ((((h.noInt hy).set _ _ (nb _)).set _ _ (ns _ _ _)).set _ _ (nb _)) (h.boxes _ hy).1)
  exact ⟨_, _, _, _, _, _, _, _, rfl, rfl, by go_simp, by go_simp, by go_simp, by go_simp, F.lo, F.hi, F.below, by simpa using x4, by simpa using y4⟩

theorem LoHi.sa {t : TypeId} (h : Jn2 w0 W a b A B n m c d p1 p2 bs xs) (hx : x ∈ xs) :
    LoHi w0 a b (.pointer (some ⟨x, 0, none⟩)) (.pointer (some ⟨W.heap.size, 0, none⟩)) (((W.setCell ⟨x, 0, none⟩ (.bool (decide (a < 0)))).setCell ⟨x, 1, none⟩ (.slice A n c)).alloc (.cells #[.bool (decide (b < 0)), .slice B m d] t)) := by
  obtain ⟨x0, x1, x2, x3, x4⟩ := h.box hx
  have nb : ∀ (q : Bool) (k : Int), Value.bool q ≠ .int .i64 k := fun q k e => by cases e
  have hn : x ≠ W.heap.size := by omega
  have hn2 := hn.symm
  have F := (((Fin2.of h).set (i := 0) (v := .bool (decide (a < 0))) (h.noInt hx) (h.boxes _ hx).1).set (i := 1) (v := .slice A n c) ((h.noInt hx).set _ _ (nb _)) (h.boxes _ hx).1).alloc (.cells #[.bool (decide (b < 0)), .slice B m d] t)
  exact ⟨_, _, _, _, _, _, _, _, rfl, rfl, by go_simp, by go_simp, by go_simp, by go_simp, F.lo, F.hi, F.below, by simp; omega, by simp⟩

theorem LoHi.as {t : TypeId} (h : Jn2 w0 W a b A B n m c d p1 p2 bs xs) (hy : y ∈ xs) :
    LoHi w0 a b (.pointer (some ⟨W.heap.size, 0, none⟩)) (.pointer (some ⟨y, 0, none⟩)) (((W.setCell ⟨y, 0, none⟩ (.bool (decide (b < 0)))).setCell ⟨y, 1, none⟩ (.slice B m d)).alloc (.cells #[.bool (decide (a < 0)), .slice A n c] t)) := by
  obtain ⟨x0, x1, x2, x3, x4⟩ := h.box hy
  have nb : ∀ (q : Bool) (k : Int), Value.bool q ≠ .int .i64 k := fun q k e => by cases e
  have hn : y ≠ W.heap.size := by omega
  have hn2 := hn.symm
  have F := (((Fin2.of h).set (i := 0) (v := .bool (decide (b < 0))) (h.noInt hy) (h.boxes _ hy).1).set (i := 1) (v := .slice B m d) ((h.noInt hy).set _ _ (nb _)) (h.boxes _ hy).1).alloc (.cells #[.bool (decide (a < 0)), .slice A n c] t)
  exact ⟨_, _, _, _, _, _, _, _, rfl, rfl, by go_simp, by go_simp, by go_simp, by go_simp, F.lo, F.hi, F.below, by simp, by simp; omega⟩

theorem LoHi.aa {t u : TypeId} (h : Jn2 w0 W a b A B n m c d p1 p2 bs xs) :
    LoHi w0 a b (.pointer (some ⟨W.heap.size, 0, none⟩)) (.pointer (some ⟨W.heap.size + 1, 0, none⟩)) ((W.alloc (.cells #[.bool (decide (a < 0)), .slice A n c] t)).alloc (.cells #[.bool (decide (b < 0)), .slice B m d] u)) := by
  have F := ((Fin2.of h).alloc (.cells #[.bool (decide (a < 0)), .slice A n c] t)).alloc (.cells #[.bool (decide (b < 0)), .slice B m d] u)
  exact ⟨_, _, _, _, _, _, _, _, rfl, rfl, by go_simp, by go_simp, by go_simp, by go_simp, F.lo, F.hi, F.below, by simp; omega, by simp⟩

theorem LoHi.aa2 {t u : TypeId} (h : Jn2 w0 W a b A B n m c d p1 p2 bs xs) :
    LoHi w0 a b (.pointer (some ⟨W.heap.size + 1, 0, none⟩)) (.pointer (some ⟨W.heap.size, 0, none⟩)) ((W.alloc (.cells #[.bool (decide (b < 0)), .slice B m d] u)).alloc (.cells #[.bool (decide (a < 0)), .slice A n c] t)) := by
  have F := ((Fin2.of h).alloc (.cells #[.bool (decide (b < 0)), .slice B m d] u)).alloc (.cells #[.bool (decide (a < 0)), .slice A n c] t)
  exact ⟨_, _, _, _, _, _, _, _, rfl, rfl, by go_simp, by go_simp, by go_simp, by go_simp, F.lo, F.hi, F.below, by simp, by simp; omega⟩
end

end Go.Proofs.YtdlmffinpoflnaaDoor
end
section
/- The law SenseTrue: one round's numbers, over this seat's translation (written by mk_true.py). -/
namespace Go.Proofs.YtdlmffinpoflnaaDoor
set_option linter.unusedVariables false
set_option linter.unusedSimpArgs false
open Go.RowKit Go.Shelf

set_option maxRecDepth 100000 in
set_option maxHeartbeats 64000000 in
theorem walk_loop (A : Option Addr) (len cap : Nat) (zs : List Tri) (g : Int) (w : World) (hI : IsT 3 pairCells w A len zs) (hl : len ≤ 200) (hok : allOk zs = true) (g0 : -1000000000 ≤ g) (g1 : g ≤ 1000000000) (a : Int × Int) (E : Int)
    (HC : Hid (∀ W, Below w.heap.size w W → Calls Tryd.prog 21 #[.slice A len cap] W (Ret (.tuple #[.agg #[.int .i64 a.1, .int .i64 a.2], .int .i64 E]) W)))
    (B : Int) (HB : Hid (∀ W, Below w.heap.size w W → Calls Tryd.prog 23 #[.slice A len cap] W (Ret (.int .i64 B) W)))
    (hE1 : (E == 1) = false) (bb : Bool) (b1 : (B == -1) = bb) (b2 : (E == 0) = bb) (HE : Hid ((∀ x ∈ zs, Lies g x) → E = 0 ∧ a.1 ≤ g ∧ g ≤ a.2)) :
    Calls Tryd.prog 6 #[.slice A len cap, .int .i64 g] w (Ret (.bool true) w) := by
  have HI := Lib.hid hI
  have HO := Lib.hid (fun (x : Tri) (hx : x ∈ zs) => okP_iff.1 (allOk_mem hok hx))
  clear hI hok
  go_enter Tryd.func6, Tryd.ntmps6
  go_wp2_with (first | (go_at_call 21; refine (HC.out _ (by (repeat first | with_reducible exact Below.refl _ _ | with_reducible assumption | (with_reducible refine Below.setCell ?_ ?_ _; rotate_left; exact (by first | omega | (simp; done) | (simp; omega))) | (with_reducible refine Below.alloc ?_ ?_ _; rotate_left; exact (by first | omega | (simp; done) | (simp; omega))) | with_reducible refine Below.drew ?_ | with_reducible refine Below_drewN ?_ _))).mono ?_; rintro e wq ⟨rfl, hb1⟩; have z1 := hb1.size) | (go_at_call 23; refine (HB.out _ (by (repeat first | with_reducible exact Below.refl _ _ | with_reducible assumption | (with_reducible refine Below.setCell ?_ ?_ _; rotate_left; exact (by first | omega | (simp; done) | (simp; omega))) | (with_reducible refine Below.alloc ?_ ?_ _; rotate_left; exact (by first | omega | (simp; done) | (simp; omega))) | with_reducible refine Below.drew ?_ | with_reducible refine Below_drewN ?_ _))).mono ?_; rintro e w2 ⟨rfl, hb2⟩; have z2 := hb2.size))
  simp only [World.size_alloc] at z2
  have hB2 : Below w.heap.size w w2 := Below.trans (by (repeat first | with_reducible exact Below.refl _ _ | with_reducible assumption | (with_reducible refine Below.setCell ?_ ?_ _; rotate_left; exact (by first | omega | (simp; done) | (simp; omega))) | (with_reducible refine Below.alloc ?_ ?_ _; rotate_left; exact (by first | omega | (simp; done) | (simp; omega))) | with_reducible refine Below.drew ?_ | with_reducible refine Below_drewN ?_ _)) (hb2.mono (by first | omega | ((try simp only [World.size_alloc, World.size_setCell, size_drew, size_drewN]); omega) | (simp; done) | (simp; omega)))
  have A0 : w2.cell? ⟨wq.heap.size, 0, none⟩ = some (.int .i64 a.1) := by rw [hb2.cell (by simp)]; go_simp
  have A1 : w2.cell? ⟨wq.heap.size, 1, none⟩ = some (.int .i64 a.2) := by rw [hb2.cell (by simp)]; go_simp
  clear hb2
  go_loopw [7, 8, 9, 10] (fun i _ _ _ wr => ∃ j : Nat, j ≤ len ∧ i = .int .i64 j ∧ Hid (∀ x ∈ zs.take j, Lies g x) ∧ wr.cell? ⟨wq.heap.size, 0, none⟩ = some (.int .i64 a.1) ∧ wr.cell? ⟨wq.heap.size, 1, none⟩ = some (.int .i64 a.2) ∧ wq.heap.size < wr.heap.size ∧ Below w.heap.size w wr) (fun i _ _ _ _ => len - (intOf i).toNat)
  case atStart => exact ⟨0, Nat.zero_le _, rfl, Lib.hid (fun x hx => by simp at hx), A0, A1, by omega, hB2⟩
  case round =>
    obtain ⟨j, hj, rfl, hL, a0, a1, hwr, hB⟩ := hrel
    by_cases hlt : j < len
    · obtain ⟨hzl, hcl⟩ := HI.out.below hB
      obtain ⟨ab, ao, rfl, hb0, hcl⟩ := hcl (by omega)
      obtain ⟨x, hx⟩ : ∃ x, zs[j]? = some x := ⟨_, List.getElem?_eq_getElem (by omega)⟩
      have x0 : wr.cell? ⟨ab, ao + j * 3, none⟩ = some (.int .i64 x.1) := by have h := hcl j x hx 0 _ rfl; simpa using h
      have x1 : wr.cell? ⟨ab, ao + j * 3 + 1, none⟩ = some (.int .i64 x.2.1) := by have h := hcl j x hx 1 _ rfl; simpa using h
      have x2 : wr.cell? ⟨ab, ao + j * 3 + 2, none⟩ = some (.int .i64 x.2.2) := by have h := hcl j x hx 2 _ rfl; simpa using h
      obtain ⟨⟨v0, v1⟩, le, l0, h0⟩ := HO.out x (List.mem_of_getElem? hx)
      have HT : Hid (zs.take (j + 1) = zs.take j ++ [x]) := Lib.hid (by
        obtain ⟨hk, rfl⟩ := List.getElem?_eq_some_iff.1 hx
        exact List.take_succ_eq_append_getElem hk)
      clear hcl hx hzl
      have HLx : Hid (Lies g x ↔ x.2.1 * 1000 ≤ x.1 * g ∧ x.1 * g ≤ x.2.2 * 1000) := Lib.hid Iff.rfl
      generalize hxx : x = xx at HT HLx
      obtain ⟨v, lo, hi⟩ := x
      dsimp only at x0 x1 x2 v0 v1 le l0 h0
      have hxx := Lib.hid hxx
      have Pv := small_pw (z := v) (by omega) (by omega)
      have Pg := small_pw (z := g) (by omega) (by omega)
      have Pl := small_pw (z := lo) (by omega) (by omega)
      have Ph := small_pw (z := hi) (by omega) (by omega)
      have Pk := small_pw (z := 1000) (by omega) (by omega)
      have jn : (0 : Int) ≤ j := by omega
      have jn2 : ((j : Int)).toNat = j := by omega
      have HJ := Jn.nil wr
      go_upto_region 12 with (first | (go_at_call 26; refine (of_big _ _ (by omega) (by omega)).mono ?_; rintro e w1 ⟨u1, rfl, V1, hb⟩; (first | (have HJ := (HJ.call hb).add V1) | (have HJ := (HJ.alloc.call hb).add V1) | (have HJ := (HJ.alloc.alloc.call hb).add V1)); clear V1; (try simp only [World.size_alloc, size_drew] at HJ); (try (obtain ⟨p0, p1, p2, p3, p4⟩ := HJ.box0; (try simp only [World.size_alloc, size_drew] at p0 p1 p2 p3 p4))); (try (obtain ⟨p5, p6, p7, p8, p9⟩ := HJ.box1; (try simp only [World.size_alloc, size_drew] at p5 p6 p7 p8 p9))); (first | (with_reducible have hk := Nat.lt_of_lt_of_le (size_alloc_lt _ _) hb.size) | (with_reducible have hk := Nat.lt_of_lt_of_le (size_alloc_drew_lt _ _) hb.size) | (with_reducible have hk := Nat.lt_of_lt_of_le hk hb.size) | skip); (try simp only [World.size_alloc, World.size_setCell, size_drew, size_drewN] at hk); obtain ⟨hc, hf⟩ := bcell hb; have hs := hb.size; (try simp only [World.size_alloc, World.size_setCell, size_drew, size_drewN] at hs)) | (go_at_call 25; (first | refine (times_big _ _ _ _ _ HJ.snd HJ.fst (by assumption) (by assumption)).mono ?_ | refine (times_big _ _ _ _ _ HJ.alloc.snd HJ.alloc.fst (by assumption) (by assumption)).mono ?_ | refine (times_big _ _ _ _ _ HJ.alloc.alloc.snd HJ.alloc.alloc.fst (by assumption) (by assumption)).mono ?_); rintro e w1 ⟨u1, rfl, V1, hb⟩; obtain ⟨A1, n1, c1, hu⟩ := V1.form; subst hu; (first | (have HJ := (HJ.call hb).add V1) | (have HJ := (HJ.alloc.call hb).add V1) | (have HJ := (HJ.alloc.alloc.call hb).add V1)); clear V1; (try simp only [World.size_alloc, size_drew] at HJ); (try (obtain ⟨p0, p1, p2, p3, p4⟩ := HJ.box0; (try simp only [World.size_alloc, size_drew] at p0 p1 p2 p3 p4))); (try (obtain ⟨p5, p6, p7, p8, p9⟩ := HJ.box1; (try simp only [World.size_alloc, size_drew] at p5 p6 p7 p8 p9))); (first | (with_reducible have hk := Nat.lt_of_lt_of_le (size_alloc_lt _ _) hb.size) | (with_reducible have hk := Nat.lt_of_lt_of_le (size_alloc_drew_lt _ _) hb.size) | (with_reducible have hk := Nat.lt_of_lt_of_le hk hb.size) | skip); (try simp only [World.size_alloc, World.size_setCell, size_drew, size_drewN] at hk); obtain ⟨hc, hf⟩ := bcell hb; have hs := hb.size; (try simp only [World.size_alloc, World.size_setCell, size_drew, size_drewN] at hs)))
      have B8 := HJ.fst.below ((Below.refl _ _).alloc (Nat.le_refl _) (.cells #[.bool (decide (v * g < 0)), .slice A1 n1 c1] 64))
      have hB8 := HJ.below.trans (((Below.refl _ w1).alloc (Nat.le_refl _) (.cells #[.bool (decide (v * g < 0)), .slice A1 n1 c1] 64)).mono HJ.below.size)
      have hs8 : w1.heap.size < (w1.alloc (.cells #[.bool (decide (v * g < 0)), .slice A1 n1 c1] 64)).heap.size := by simp
      have t80 : (w1.alloc (.cells #[.bool (decide (v * g < 0)), .slice A1 n1 c1] 64)).cell? ⟨w1.heap.size, 0, none⟩ = some (.bool (decide (v * g < 0))) := by go_simp
      have t81 : (w1.alloc (.cells #[.bool (decide (v * g < 0)), .slice A1 n1 c1] 64)).cell? ⟨w1.heap.size, 1, none⟩ = some (.slice A1 n1 c1) := by go_simp
      obtain ⟨wa, hwa⟩ : ∃ wa, w1.alloc (.cells #[.bool (decide (v * g < 0)), .slice A1 n1 c1] 64) = wa := ⟨_, rfl⟩
      rw [hwa] at B8 hB8 hs8 t80 t81 ⊢
      clear hwa HJ hb hc hf hs
      obtain ⟨qv, hqv⟩ : ∃ q, w1.heap.size = q := ⟨_, rfl⟩
      rw [hqv] at hs8 t80 t81 ⊢
      clear hqv
      have y1 := (hB8.cell (p := ⟨ab, ao + j * 3 + 1, none⟩) hb0).trans x1
      have y2 := (hB8.cell (p := ⟨ab, ao + j * 3 + 2, none⟩) hb0).trans x2
      have yb : ab < wa.heap.size := Nat.lt_of_lt_of_le hb0 hB8.size
      have HJ := Jn.nil wa.drew
      go_cut [9, 10] (fun s9 s10 wx => LoHi wa (lo * 1000) (hi * 1000) s9 s10 wx)
      case first =>
        have HS : Hid (∀ w' : World, Reg (wa.heap.size) (wa) w' → (Reg (wa.heap.size) (wa) w' ∧ w'.cell? ⟨ab, ao + j * 3 + 1, none⟩ = some (.int .i64 lo) ∧ w'.cell? ⟨ab, ao + j * 3 + 2, none⟩ = some (.int .i64 hi))) := (fun w' h => by (have hc := h.cells; have hs := h.some; have hf := h.frozen; refine ⟨h, ?_⟩; (try simp only [World.size_alloc, World.size_setCell, size_drew, size_drewN] at hc hs hf); first | (simp (disch := omega) only [hc, hs, hf, cur_iff]; (try go_simp); done) | (simp (disch := first | omega | (simp; done)) only [hc, hs, hf, cur_iff]; (try go_simp); done) | (simp (maxDischargeDepth := 4) [hc, hs, hf, cur_iff, go_sem]; done) | (go_simp; done) | (simp (maxDischargeDepth := 4) [hc, hs, hf, cur_iff, go_sem]; go_simp))); go_region_held3 (fun w' => Reg (wa.heap.size) (wa) w' ∧ w'.cell? ⟨ab, ao + j * 3 + 1, none⟩ = some (.int .i64 lo) ∧ w'.cell? ⟨ab, ao + j * 3 + 2, none⟩ = some (.int .i64 hi)) (exact HS.out _ (by (repeat first | with_reducible exact Reg.refl _ _ | with_reducible exact Reg.drewN2 _ _ _ _ | with_reducible exact (‹Reg _ _ _ ∧ _›).1 | (with_reducible refine Reg.setCell ?_ ?_ _; rotate_left; exact (by first | omega | ((try simp only [World.size_alloc, World.size_setCell, size_drew, size_drewN]); omega) | (simp; done) | (simp; omega))) | with_reducible refine Reg.alloc ?_ _ | with_reducible refine Reg.drew ?_ | with_reducible refine Reg.drewN ?_ _ | (with_reducible apply Reg.call; rotate_left; with_reducible assumption)))) (first | (go_at_call 26; refine (of_big _ _ (by omega) (by omega)).mono ?_; rintro e w1 ⟨u1, rfl, V1, hb⟩; (first | (have HJ := (HJ.call hb).add V1) | (have HJ := (HJ.alloc.call hb).add V1) | (have HJ := (HJ.alloc.alloc.call hb).add V1)); clear V1; (try simp only [World.size_alloc, size_drew] at HJ); (try (obtain ⟨p0, p1, p2, p3, p4⟩ := HJ.box0; (try simp only [World.size_alloc, size_drew] at p0 p1 p2 p3 p4))); (try (obtain ⟨p5, p6, p7, p8, p9⟩ := HJ.box1; (try simp only [World.size_alloc, size_drew] at p5 p6 p7 p8 p9))); (first | (with_reducible have hk := Nat.lt_of_lt_of_le (size_alloc_lt _ _) hb.size) | (with_reducible have hk := Nat.lt_of_lt_of_le (size_alloc_drew_lt _ _) hb.size) | (with_reducible have hk := Nat.lt_of_lt_of_le hk hb.size) | skip); (try simp only [World.size_alloc, World.size_setCell, size_drew, size_drewN] at hk); obtain ⟨hc, hf⟩ := bcell hb; have hs := hb.size; (try simp only [World.size_alloc, World.size_setCell, size_drew, size_drewN] at hs)) | (go_at_call 25; (first | refine (times_big _ _ _ _ _ HJ.snd HJ.fst (by assumption) (by assumption)).mono ?_ | refine (times_big _ _ _ _ _ HJ.alloc.snd HJ.alloc.fst (by assumption) (by assumption)).mono ?_ | refine (times_big _ _ _ _ _ HJ.alloc.alloc.snd HJ.alloc.alloc.fst (by assumption) (by assumption)).mono ?_); rintro e w1 ⟨u1, rfl, V1, hb⟩; obtain ⟨A1, n1, c1, hu⟩ := V1.form; subst hu; (first | (have HJ := (HJ.call hb).add V1) | (have HJ := (HJ.alloc.call hb).add V1) | (have HJ := (HJ.alloc.alloc.call hb).add V1)); clear V1; (try simp only [World.size_alloc, size_drew] at HJ); (try (obtain ⟨p0, p1, p2, p3, p4⟩ := HJ.box0; (try simp only [World.size_alloc, size_drew] at p0 p1 p2 p3 p4))); (try (obtain ⟨p5, p6, p7, p8, p9⟩ := HJ.box1; (try simp only [World.size_alloc, size_drew] at p5 p6 p7 p8 p9))); (first | (with_reducible have hk := Nat.lt_of_lt_of_le (size_alloc_lt _ _) hb.size) | (with_reducible have hk := Nat.lt_of_lt_of_le (size_alloc_drew_lt _ _) hb.size) | (with_reducible have hk := Nat.lt_of_lt_of_le hk hb.size) | skip); (try simp only [World.size_alloc, World.size_setCell, size_drew, size_drewN] at hk); obtain ⟨hc, hf⟩ := bcell hb; have hs := hb.size; (try simp only [World.size_alloc, World.size_setCell, size_drew, size_drewN] at hs)))
        all_goals go_wp2_with fail
        all_goals go_meet
        all_goals first | ((with_reducible refine LoHi.ss HJ ?_ ?_ ?_) <;> first | with_reducible exact HJ.ne | with_reducible exact HJ.ne.symm | (simp; done)) | ((with_reducible refine LoHi.sa HJ ?_) <;> (simp; done)) | ((with_reducible refine LoHi.as HJ ?_) <;> (simp; done)) | with_reducible exact LoHi.aa HJ | with_reducible exact LoHi.aa2 HJ
      case rest =>
        obtain ⟨x9, y9, A9, B9, n9, m9, c9, d9, rfl, rfl, l0', l1', h0', h1', VL, VH, hBx, hx9, hy9⟩ := hcut
        have hBw : Below w.heap.size w wc := (hB.trans (hB8.mono hB.size)).trans (hBx.mono (Nat.le_trans hB.size hB8.size))
        have T0 := (hBx.cell (p := ⟨qv, 0, none⟩) hs8).trans t80
        have T1 := (hBx.cell (p := ⟨qv, 1, none⟩) hs8).trans t81
        have hqs : qv < wc.heap.size := Nat.lt_of_lt_of_le hs8 hBx.size
        have a0' := ((hB8.cell (p := ⟨wq.heap.size, 0, none⟩) hwr).trans a0)
        have a1' := ((hB8.cell (p := ⟨wq.heap.size, 1, none⟩) hwr).trans a1)
        have hwa2 : wq.heap.size < wa.heap.size := Nat.lt_of_lt_of_le hwr hB8.size
        have a0 := (hBx.cell (p := ⟨wq.heap.size, 0, none⟩) hwa2).trans a0'
        have a1 := (hBx.cell (p := ⟨wq.heap.size, 1, none⟩) hwa2).trans a1'
        have hwc : wq.heap.size < wc.heap.size := Nat.lt_of_lt_of_le hwa2 hBx.size
        have P1 : max (v * g) (-(v * g)) < pw 32 := big32 v0 v1 g0 g1
        have P2 : max (lo * 1000) (-(lo * 1000)) < pw 32 := by have := pw_32; omega
        have P3 : max (hi * 1000) (-(hi * 1000)) < pw 32 := by have := pw_32; omega
        have C1 := Lib.hid (fun W (hb : Below wc.heap.size wc W) => compare_big (v * g) (lo * 1000) _ _ W ((B8.below hBx).below hb) (VL.below hb) P1 P2)
        have C2 := Lib.hid (fun W (hb : Below wc.heap.size wc W) => compare_big (v * g) (hi * 1000) _ _ W ((B8.below hBx).below hb) (VH.below hb) P1 P3)
        have hLx : Lies g xx ↔ lo * 1000 ≤ v * g ∧ v * g ≤ hi * 1000 := by
          have h1 := HLx.out
          rw [← hxx.out] at h1 ⊢
          exact h1
        have HLx := Lib.hid hLx
        clear VL VH B8 P1 P2 P3 Pv Pg Pl Ph Pk HJ t80 t81 x0 x1 x2 y1 y2 hLx hBx a0' a1' l0 h0 le v0 v1 HO
        have HC1 : Hid (cmpB (v * g) (lo * 1000) = if v * g = lo * 1000 then 0 else if v * g < lo * 1000 then -1 else 1) := Lib.hid rfl
        have HC2 : Hid (cmpB (v * g) (hi * 1000) = if v * g = hi * 1000 then 0 else if v * g < hi * 1000 then -1 else 1) := Lib.hid rfl
        generalize cmpB (v * g) (lo * 1000) = r1 at *
        generalize cmpB (v * g) (hi * 1000) = r2 at *
        generalize decide (v * g < 0) = bv at *
        generalize decide (lo * 1000 < 0) = bl at *
        generalize decide (hi * 1000 < 0) = bh at *
        generalize v * g = V at *
        generalize lo * 1000 = L at *
        generalize hi * 1000 = H at *
        by_cases d1 : V < L
        · have hr : r1 = -1 := by rw [HC1.out, if_neg (by omega), if_pos d1]
          rw [hr] at C1
          clear HC1 HC2 C2 hr
          go_wp2_with (first | ((go_at_call 27; refine (C1.out _ (by (repeat first | with_reducible exact Below.refl _ _ | with_reducible assumption | (with_reducible refine Below.setCell ?_ ?_ _; rotate_left; exact (by first | omega | (simp; done) | (simp; omega))) | (with_reducible refine Below.alloc ?_ ?_ _; rotate_left; exact (by first | omega | (simp; done) | (simp; omega))) | with_reducible refine Below.drew ?_ | with_reducible refine Below_drewN ?_ _))).mono ?_); clear C1; rintro e w5 ⟨rfl, hb5⟩; have hB5 := hBw.trans (hb5.mono hBw.size)) | (go_at_call 8; refine (awake_any _).mono ?_; rintro e w6 ⟨rfl, hb6⟩; have hB6 := hB5.trans (hb6.mono hB5.size)))
          go_ret
          exact ⟨rfl, hB6⟩
        · have hr1 : 0 ≤ r1 := by rw [HC1.out]; split <;> (try split) <;> omega
          by_cases d2 : H < V
          · have hr : r2 = 1 := by rw [HC2.out, if_neg (by omega), if_neg (by omega)]
            rw [hr] at C2
            clear HC1 HC2 hr
            go_wp2_with (first | ((go_at_call 27; refine (C1.out _ (by (repeat first | with_reducible exact Below.refl _ _ | with_reducible assumption | (with_reducible refine Below.setCell ?_ ?_ _; rotate_left; exact (by first | omega | (simp; done) | (simp; omega))) | (with_reducible refine Below.alloc ?_ ?_ _; rotate_left; exact (by first | omega | (simp; done) | (simp; omega))) | with_reducible refine Below.drew ?_ | with_reducible refine Below_drewN ?_ _))).mono ?_); clear C1; rintro e w5 ⟨rfl, hb5⟩; have hB5 := hBw.trans (hb5.mono hBw.size); have T0' := (hb5.cell (p := ⟨qv, 0, none⟩) hqs).trans T0; have T1' := (hb5.cell (p := ⟨qv, 1, none⟩) hqs).trans T1; have H0' := (hb5.cell (p := ⟨y9, 0, none⟩) hy9).trans h0'; have H1' := (hb5.cell (p := ⟨y9, 1, none⟩) hy9).trans h1') | ((go_at_call 27; refine (C2.out _ (by assumption)).mono ?_); rintro e w7 ⟨rfl, hb7⟩; have hB7 := hB5.trans (hb7.mono hB5.size)) | (go_at_call 8; refine (awake_any _).mono ?_; rintro e w6 ⟨rfl, hb6⟩; have hB6 := hB7.trans (hb6.mono hB7.size)))
            go_ret
            exact ⟨rfl, hB6⟩
          · have hr2 : r2 ≤ 0 := by rw [HC2.out]; split <;> (try split) <;> omega
            have HN : Hid (∀ x ∈ zs.take (j + 1), Lies g x) := Lib.hid (fun x hx => by
              rw [HT.out] at hx
              rcases List.mem_append.1 hx with hx | hx
              · exact hL.out x hx
              · obtain rfl : x = xx := by simpa using hx
                exact HLx.out.2 ⟨by omega, by omega⟩)
            clear HC1 HC2
            go_wp2_with (first | ((go_at_call 27; refine (C1.out _ (by (repeat first | with_reducible exact Below.refl _ _ | with_reducible assumption | (with_reducible refine Below.setCell ?_ ?_ _; rotate_left; exact (by first | omega | (simp; done) | (simp; omega))) | (with_reducible refine Below.alloc ?_ ?_ _; rotate_left; exact (by first | omega | (simp; done) | (simp; omega))) | with_reducible refine Below.drew ?_ | with_reducible refine Below_drewN ?_ _))).mono ?_); clear C1; rintro e w5 ⟨rfl, hb5⟩; have hB5 := hBw.trans (hb5.mono hBw.size); have T0' := (hb5.cell (p := ⟨qv, 0, none⟩) hqs).trans T0; have T1' := (hb5.cell (p := ⟨qv, 1, none⟩) hqs).trans T1; have H0' := (hb5.cell (p := ⟨y9, 0, none⟩) hy9).trans h0'; have H1' := (hb5.cell (p := ⟨y9, 1, none⟩) hy9).trans h1'; have A0' := (hb5.cell (p := ⟨wq.heap.size, 0, none⟩) hwc).trans a0; have A1' := (hb5.cell (p := ⟨wq.heap.size, 1, none⟩) hwc).trans a1; have Q5 := Nat.lt_of_lt_of_le hwc hb5.size) | ((go_at_call 27; refine (C2.out _ (by assumption)).mono ?_); rintro e w7 ⟨rfl, hb7⟩; have hB7 := hB5.trans (hb7.mono hB5.size); have A0'' := (hb7.cell (p := ⟨wq.heap.size, 0, none⟩) Q5).trans A0'; have A1'' := (hb7.cell (p := ⟨wq.heap.size, 1, none⟩) Q5).trans A1'; have Q7 := Nat.lt_of_lt_of_le Q5 hb7.size))
            go_roundw
            case rel => exact ⟨j + 1, by omega, by go_num, HN, A0'', A1'', Q7, hB7⟩
            case measure => simp [intOf]; omega
    · have hz : j = len := by omega
      have HH := HE.out (by
        have h1 := hL.out
        rw [hz, ← HI.out.1, List.take_length] at h1
        exact h1)
      obtain ⟨hE0, hA1, hA2⟩ := HH
      subst hE0
      go_wp2_with (go_at_call 8; refine (awake_any _).mono ?_; rintro e w6 ⟨rfl, hb6⟩; have hB6 := hB.trans (hb6.mono hB.size))
      go_ret
      exact ⟨rfl, hB6⟩

end Go.Proofs.YtdlmffinpoflnaaDoor
end
