import Derived.Test.YtjikhpdchockcaaDoorJAK
import Derived.Test.YtjikhpdchockcaaDoorJAN
import Derived.Test.YtjikhpdchockcaaDoorJAS
section
/- The law SenseTrue: the ends of a reading as whole numbers of any length (lo, hi := ..), whatever order Go takes, over this seat's translation. -/
namespace Go.Proofs.YtjikhpdchockcaaDoor
set_option linter.unusedVariables false
set_option linter.unusedSimpArgs false
open Go.RowKit Go.Shelf

theorem pw_sixteen : pw 16 = 10000000000000000000000000000000000000000000000000000000000000000 := by decide
theorem small_pw {z : Int} (h0 : -1000000000000000000 ≤ z) (h1 : z ≤ 1000000000000000000) : max z (-z) < pw 16 := by rw [pw_sixteen]; omega

theorem pw_32 : pw 32 = 100000000000000000000000000000000000000000000000000000000000000000000000000000000000000000000000000000000000000000000000000000000 := by decide
theorem big32 {v g : Int} (v0 : -1000000000000000 ≤ v) (v1 : v ≤ 1000000000000000) (g0 : -1000000000 ≤ g) (g1 : g ≤ 1000000000) : max (v * g) (-(v * g)) < pw 32 := by
  have h := mul_fit v g v0 (by omega) v1 (by omega)
  have := pw_32
  omega

abbrev zeroBig : Obj := .cells #[.bool false, .slice none 0 0] 99
/-- What has been made so far: numbers, and boxes that hold nothing yet. -/
structure Jn (w0 W : World) (bs : List (Value × Int)) (xs : List Nat) : Prop where
  below : Below w0.heap.size w0 W
  bigs : ∀ p ∈ bs, BigV W p.1 p.2
  boxes : ∀ x ∈ xs, w0.heap.size ≤ x ∧ W.heap[x]? = some zeroBig
  nodup : xs.Nodup
theorem Jn.nil (W : World) : Jn W W [] [] := ⟨Below.refl _ _, fun p h => (by cases h), fun p h => (by cases h), List.nodup_nil⟩
theorem Jn.call {w0 W W1 : World} {bs : List (Value × Int)} {xs : List Nat} (h : Jn w0 W bs xs) (hb : Below W.heap.size W W1) : Jn w0 W1 bs xs :=
  ⟨h.below.trans (hb.mono h.below.size), fun p hp => (h.bigs p hp).below hb, fun x hx => (by
    obtain ⟨h0, h1⟩ := h.boxes x hx
    refine ⟨h0, ?_⟩
    rw [hb.block x (Array.getElem?_eq_some_iff.1 h1).1]; exact h1), h.nodup⟩
theorem Jn.alloc {w0 W : World} {bs : List (Value × Int)} {xs : List Nat} (h : Jn w0 W bs xs) : Jn w0 (W.alloc zeroBig) bs (W.heap.size :: xs) := by
  have h1 := h.call ((Below.refl W.heap.size W).alloc (Nat.le_refl _) zeroBig)
  refine ⟨h1.below, h1.bigs, fun x hx => ?_, List.nodup_cons.2 ⟨fun hx => ?_, h.nodup⟩⟩
  · rcases List.mem_cons.1 hx with rfl | hx
    · exact ⟨h.below.size, World.alloc_heap_new W _⟩
    · exact h1.boxes x hx
  · have := (Array.getElem?_eq_some_iff.1 (h.boxes _ hx).2).1
    omega
theorem Jn.add {w0 W : World} {bs : List (Value × Int)} {xs : List Nat} (h : Jn w0 W bs xs) {v : Value} {z : Int} (hv : BigV W v z) : Jn w0 W ((v, z) :: bs) xs :=
  ⟨h.below, fun p hp => (by
    rcases List.mem_cons.1 hp with rfl | hp
    · exact hv
    · exact h.bigs p hp), h.boxes, h.nodup⟩
theorem Jn.fst {w0 W : World} {v : Value} {z : Int} {bs : List (Value × Int)} {xs : List Nat} (h : Jn w0 W ((v, z) :: bs) xs) : BigV W v z := h.bigs (v, z) (List.mem_cons_self ..)
theorem Jn.snd {w0 W : World} {p : Value × Int} {v : Value} {z : Int} {bs : List (Value × Int)} {xs : List Nat} (h : Jn w0 W (p :: (v, z) :: bs) xs) : BigV W v z := h.bigs (v, z) (List.mem_cons_of_mem _ (List.mem_cons_self ..))
theorem Jn.box {w0 W : World} {bs : List (Value × Int)} {xs : List Nat} (h : Jn w0 W bs xs) {x : Nat} (hx : x ∈ xs) :
    W.cell? ⟨x, 0, none⟩ = some (.bool false) ∧ W.cell? ⟨x, 1, none⟩ = some (.slice none 0 0) ∧ W.frozen? ⟨x, 0, none⟩ = false ∧ W.frozen? ⟨x, 1, none⟩ = false ∧ x < W.heap.size := by
  have h1 := (h.boxes x hx).2
  exact ⟨by simp [World.cell?, h1], by simp [World.cell?, h1], by simp [World.frozen?, h1], by simp [World.frozen?, h1], (Array.getElem?_eq_some_iff.1 h1).1⟩
theorem Jn.box0 {w0 W : World} {bs : List (Value × Int)} {x : Nat} {xs : List Nat} (h : Jn w0 W bs (x :: xs)) : W.cell? ⟨x, 0, none⟩ = some (.bool false) ∧ W.cell? ⟨x, 1, none⟩ = some (.slice none 0 0) ∧ W.frozen? ⟨x, 0, none⟩ = false ∧ W.frozen? ⟨x, 1, none⟩ = false ∧ x < W.heap.size := h.box (List.mem_cons_self ..)
theorem Jn.box1 {w0 W : World} {bs : List (Value × Int)} {x y : Nat} {xs : List Nat} (h : Jn w0 W bs (x :: y :: xs)) : W.cell? ⟨y, 0, none⟩ = some (.bool false) ∧ W.cell? ⟨y, 1, none⟩ = some (.slice none 0 0) ∧ W.frozen? ⟨y, 0, none⟩ = false ∧ W.frozen? ⟨y, 1, none⟩ = false ∧ y < W.heap.size := h.box (List.mem_cons_of_mem _ (List.mem_cons_self ..))

theorem Jn.ne {w0 W : World} {bs : List (Value × Int)} {x y : Nat} {xs : List Nat} (h : Jn w0 W bs (x :: y :: xs)) : x ≠ y := fun e => by
  have := (List.nodup_cons.1 h.nodup).1
  exact this (by rw [e]; exact List.mem_cons_self ..)

/-- Block x holds no whole number. -/
def NoInt (W : World) (x : Nat) : Prop := ∀ o k, W.cell? ⟨x, o, none⟩ ≠ some (.int .i64 k)
theorem Jn.noInt {w0 W : World} {bs : List (Value × Int)} {xs : List Nat} (h : Jn w0 W bs xs) {x : Nat} (hx : x ∈ xs) : NoInt W x := fun o k e => by
  have h1 := (h.boxes x hx).2
  simp [World.cell?, h1] at e
  rcases o with _ | _ | o <;> simp at e
theorem NoInt.set {W : World} {x : Nat} (h : NoInt W x) (p : Addr) (v : Value) (hv : ∀ k, v ≠ .int .i64 k) : NoInt (W.setCell p v) x := fun o k e => by
  by_cases hp : p = ⟨x, o, none⟩
  · subst hp
    have h1 := isSome_setCell W ⟨x, o, none⟩ ⟨x, o, none⟩ v
    rw [e] at h1
    have h2 := World.cell?_setCell_same' W ⟨x, o, none⟩ v h1.symm
    rw [h2] at e
    exact hv k (Option.some.inj e)
  · rw [World.cell?_setCell_other _ _ _ _ hp] at e
    exact h o k e

theorem NoInt.alloc {W : World} {x : Nat} (h : NoInt W x) (hx : x < W.heap.size) (o : Obj) : NoInt (W.alloc o) x := fun p k e => by
  rw [((Below.refl _ W).alloc (Nat.le_refl _) o).cell (p := ⟨x, p, none⟩) hx] at e
  exact h p k e
theorem NoInt.new (W : World) (q : Bool) (A : Option Addr) (n c : Nat) (t : TypeId) : NoInt (W.alloc (.cells #[.bool q, .slice A n c] t)) W.heap.size := fun p k e => by
  have h1 := World.alloc_heap_new W (.cells #[.bool q, .slice A n c] t)
  generalize W.alloc (.cells #[.bool q, .slice A n c] t) = V at *
  simp [World.cell?, h1] at e
  rcases p with _ | _ | p <;> simp at e

theorem NoInt.new' (W : World) (q : Bool) (A : Option Addr) (n c : Nat) (t : TypeId) {x : Nat} (h : W.heap.size = x) : NoInt (W.alloc (.cells #[.bool q, .slice A n c] t)) x := h ▸ NoInt.new W q A n c t

/-- A Big's form. -/
theorem BigV.formS {W : World} {v : Value} {z : Int} (h : BigV W v z) : ∃ (A : Option Addr) (n c : Nat), v = .agg #[.bool (decide (z < 0)), .slice A n c] := by
  obtain ⟨A, n, c, P, e, _⟩ := h
  exact ⟨A, n, c, e⟩

/-- The digits lie in no box: so a store into a box leaves the number. -/
theorem BigV.set {W : World} {v : Value} {z : Int} (h : BigV W v z) {x : Nat} (i : Nat) (u : Value) (hx : ∀ o k, W.cell? ⟨x, o, none⟩ ≠ some (.int .i64 k)) : BigV (W.setCell ⟨x, i, none⟩ u) v z := by
  obtain ⟨A, n, c, P, e, ⟨h1, h2⟩, h3⟩ := h
  refine ⟨A, n, c, P, e, ⟨h1, fun h0 => ?_⟩, h3⟩
  obtain ⟨b, o, hA, hb0, hb, hc⟩ := h2 h0
  refine ⟨b, o, hA, hb0, by rw [World.size_setCell]; exact hb, fun j hj => ?_⟩
  rw [World.cell?_setCell_other _ _ _ _ (by intro e; injection e with e1 e2; subst e1; exact hx _ _ (hc j hj))]
  exact hc j hj

/-- The two numbers, behind their stores. -/
structure Fin2 (w0 W : World) (ul : Value) (a : Int) (uh : Value) (b : Int) : Prop where
  lo : BigV W ul a
  hi : BigV W uh b
  below : Below w0.heap.size w0 W
theorem Fin2.of {w0 W : World} {ul uh : Value} {a b : Int} {p1 p2 : Value × Int} {bs : List (Value × Int)} {xs : List Nat} (h : Jn w0.drew W ((uh, b) :: p1 :: p2 :: (ul, a) :: bs) xs) : Fin2 w0 W ul a uh b :=
  ⟨h.bigs (ul, a) (by simp), h.bigs (uh, b) (by simp), ((Below.refl _ w0).drew).trans h.below⟩
theorem Fin2.alloc {w0 W : World} {ul uh : Value} {a b : Int} (h : Fin2 w0 W ul a uh b) (o : Obj) : Fin2 w0 (W.alloc o) ul a uh b :=
  ⟨h.lo.below ((Below.refl _ _).alloc (Nat.le_refl _) _), h.hi.below ((Below.refl _ _).alloc (Nat.le_refl _) _), h.below.alloc h.below.size _⟩
theorem Fin2.set {w0 W : World} {ul uh : Value} {a b : Int} (h : Fin2 w0 W ul a uh b) {x i : Nat} {v : Value} (hx : NoInt W x) (h0 : w0.heap.size ≤ x) : Fin2 w0 (W.setCell ⟨x, i, none⟩ v) ul a uh b :=
  ⟨h.lo.set i v hx, h.hi.set i v hx, h.below.setCell (p := ⟨x, i, none⟩) h0 _⟩

def LoHi (w0 : World) (a b : Int) (s9 s10 : Value) (wx : World) : Prop := ∃ (x y : Nat) (A B : Option Addr) (n m c d : Nat), s9 = .pointer (some ⟨x, 0, none⟩) ∧ s10 = .pointer (some ⟨y, 0, none⟩) ∧
  wx.cell? ⟨x, 0, none⟩ = some (.bool (decide (a < 0))) ∧ wx.cell? ⟨x, 1, none⟩ = some (.slice A n c) ∧ wx.cell? ⟨y, 0, none⟩ = some (.bool (decide (b < 0))) ∧ wx.cell? ⟨y, 1, none⟩ = some (.slice B m d) ∧
  BigV wx (.agg #[.bool (decide (a < 0)), .slice A n c]) a ∧ BigV wx (.agg #[.bool (decide (b < 0)), .slice B m d]) b ∧ Below w0.heap.size w0 wx ∧ x < wx.heap.size ∧ y < wx.heap.size ∧ NoInt wx x ∧ NoInt wx y ∧ x ≠ y ∧ w0.heap.size ≤ x ∧ w0.heap.size ≤ y ∧ wx.frozen? ⟨x, 0, none⟩ = false ∧ wx.frozen? ⟨x, 1, none⟩ = false ∧ wx.frozen? ⟨y, 0, none⟩ = false ∧ wx.frozen? ⟨y, 1, none⟩ = false

section
variable {w0 W : World} {a b : Int} {x y : Nat} {A B : Option Addr} {n m c d : Nat} {p1 p2 : Value × Int} {bs : List (Value × Int)} {xs : List Nat}
abbrev Jn2 (w0 W : World) (a b : Int) (A B : Option Addr) (n m c d : Nat) (p1 p2 : Value × Int) (bs : List (Value × Int)) (xs : List Nat) : Prop :=
  Jn w0.drew W ((.agg #[.bool (decide (b < 0)), .slice B m d], b) :: p1 :: p2 :: (.agg #[.bool (decide (a < 0)), .slice A n c], a) :: bs) xs

theorem LoHi.ss (h : Jn2 w0 W a b A B n m c d p1 p2 bs xs) (hx : x ∈ xs) (hy : y ∈ xs) (hn : x ≠ y) :
    LoHi w0 a b (.pointer (some ⟨x, 0, none⟩)) (.pointer (some ⟨y, 0, none⟩)) ((((W.setCell ⟨x, 0, none⟩ (.bool (decide (a < 0)))).setCell ⟨x, 1, none⟩ (.slice A n c)).setCell ⟨y, 0, none⟩ (.bool (decide (b < 0)))).setCell ⟨y, 1, none⟩ (.slice B m d)) := by
  obtain ⟨x0, x1, x2, x3, x4⟩ := h.box hx
  obtain ⟨y0, y1, y2, y3, y4⟩ := h.box hy
  have hn2 := hn.symm
  have nb : ∀ (q : Bool) (k : Int), Value.bool q ≠ .int .i64 k := fun q k e => by cases e
  have ns : ∀ (q : Option Addr) (i j : Nat) (k : Int), Value.slice q i j ≠ .int .i64 k := fun q i j k e => by cases e
  have F := (((((Fin2.of h).set (i := 0) (v := .bool (decide (a < 0))) (h.noInt hx) (h.boxes _ hx).1).set (i := 1) (v := .slice A n c) ((h.noInt hx).set _ _ (nb _)) (h.boxes _ hx).1).set (i := 0) (v := .bool (decide (b < 0))) (((h.noInt hy).set _ _ (nb _)).set _ _ (ns _ _ _)) (h.boxes _ hy).1).set (i := 1) (v := .slice B m d) ((((h.noInt hy).set _ _ (nb _)).set _ _ (ns _ _ _)).set _ _ (nb _)) (h.boxes _ hy).1)
  exact ⟨_, _, _, _, _, _, _, _, rfl, rfl, by go_simp, by go_simp, by go_simp, by go_simp, F.lo, F.hi, F.below, by simpa using x4, by simpa using y4, ((((h.noInt hx).set _ _ (nb _)).set _ _ (ns _ _ _)).set _ _ (nb _)).set _ _ (ns _ _ _), ((((h.noInt hy).set _ _ (nb _)).set _ _ (ns _ _ _)).set _ _ (nb _)).set _ _ (ns _ _ _), hn, (h.boxes _ hx).1, (h.boxes _ hy).1, by go_simp, by go_simp, by go_simp, by go_simp⟩

theorem LoHi.sa {t : TypeId} (h : Jn2 w0 W a b A B n m c d p1 p2 bs xs) (hx : x ∈ xs) :
    LoHi w0 a b (.pointer (some ⟨x, 0, none⟩)) (.pointer (some ⟨W.heap.size, 0, none⟩)) (((W.setCell ⟨x, 0, none⟩ (.bool (decide (a < 0)))).setCell ⟨x, 1, none⟩ (.slice A n c)).alloc (.cells #[.bool (decide (b < 0)), .slice B m d] t)) := by
  obtain ⟨x0, x1, x2, x3, x4⟩ := h.box hx
  have nb : ∀ (q : Bool) (k : Int), Value.bool q ≠ .int .i64 k := fun q k e => by cases e
  have ns : ∀ (q : Option Addr) (i j : Nat) (k : Int), Value.slice q i j ≠ .int .i64 k := fun q i j k e => by cases e
  have hn : x ≠ W.heap.size := by omega
  have hn2 := hn.symm
  have F := (((Fin2.of h).set (i := 0) (v := .bool (decide (a < 0))) (h.noInt hx) (h.boxes _ hx).1).set (i := 1) (v := .slice A n c) ((h.noInt hx).set _ _ (nb _)) (h.boxes _ hx).1).alloc (.cells #[.bool (decide (b < 0)), .slice B m d] t)
  exact ⟨_, _, _, _, _, _, _, _, rfl, rfl, by go_simp, by go_simp, by go_simp, by go_simp, F.lo, F.hi, F.below, by simp; omega, by simp, (((h.noInt hx).set _ _ (nb _)).set _ _ (ns _ _ _)).alloc (by simpa using x4) _, NoInt.new' _ _ _ _ _ _ (by simp), hn, (h.boxes _ hx).1, h.below.size, by go_simp, by go_simp, by go_simp, by go_simp⟩

theorem LoHi.as {t : TypeId} (h : Jn2 w0 W a b A B n m c d p1 p2 bs xs) (hy : y ∈ xs) :
    LoHi w0 a b (.pointer (some ⟨W.heap.size, 0, none⟩)) (.pointer (some ⟨y, 0, none⟩)) (((W.setCell ⟨y, 0, none⟩ (.bool (decide (b < 0)))).setCell ⟨y, 1, none⟩ (.slice B m d)).alloc (.cells #[.bool (decide (a < 0)), .slice A n c] t)) := by
  obtain ⟨x0, x1, x2, x3, x4⟩ := h.box hy
  have nb : ∀ (q : Bool) (k : Int), Value.bool q ≠ .int .i64 k := fun q k e => by cases e
  have ns : ∀ (q : Option Addr) (i j : Nat) (k : Int), Value.slice q i j ≠ .int .i64 k := fun q i j k e => by cases e
  have hn : y ≠ W.heap.size := by omega
  have hn2 := hn.symm
  have F := (((Fin2.of h).set (i := 0) (v := .bool (decide (b < 0))) (h.noInt hy) (h.boxes _ hy).1).set (i := 1) (v := .slice B m d) ((h.noInt hy).set _ _ (nb _)) (h.boxes _ hy).1).alloc (.cells #[.bool (decide (a < 0)), .slice A n c] t)
  exact ⟨_, _, _, _, _, _, _, _, rfl, rfl, by go_simp, by go_simp, by go_simp, by go_simp, F.lo, F.hi, F.below, by simp, by simp; omega, NoInt.new' _ _ _ _ _ _ (by simp), (((h.noInt hy).set _ _ (nb _)).set _ _ (ns _ _ _)).alloc (by simpa using x4) _, hn2, h.below.size, (h.boxes _ hy).1, by go_simp, by go_simp, by go_simp, by go_simp⟩

theorem LoHi.aa {t u : TypeId} (h : Jn2 w0 W a b A B n m c d p1 p2 bs xs) :
    LoHi w0 a b (.pointer (some ⟨W.heap.size, 0, none⟩)) (.pointer (some ⟨W.heap.size + 1, 0, none⟩)) ((W.alloc (.cells #[.bool (decide (a < 0)), .slice A n c] t)).alloc (.cells #[.bool (decide (b < 0)), .slice B m d] u)) := by
  have F := ((Fin2.of h).alloc (.cells #[.bool (decide (a < 0)), .slice A n c] t)).alloc (.cells #[.bool (decide (b < 0)), .slice B m d] u)
  exact ⟨_, _, _, _, _, _, _, _, rfl, rfl, by go_simp, by go_simp, by go_simp, by go_simp, F.lo, F.hi, F.below, by simp; omega, by simp, (NoInt.new _ _ _ _ _ _).alloc (by simp) _, NoInt.new' _ _ _ _ _ _ (by simp), by omega, h.below.size, Nat.le_succ_of_le h.below.size, by go_simp, by go_simp, by go_simp, by go_simp⟩

theorem LoHi.aa2 {t u : TypeId} (h : Jn2 w0 W a b A B n m c d p1 p2 bs xs) :
    LoHi w0 a b (.pointer (some ⟨W.heap.size + 1, 0, none⟩)) (.pointer (some ⟨W.heap.size, 0, none⟩)) ((W.alloc (.cells #[.bool (decide (b < 0)), .slice B m d] u)).alloc (.cells #[.bool (decide (a < 0)), .slice A n c] t)) := by
  have F := ((Fin2.of h).alloc (.cells #[.bool (decide (b < 0)), .slice B m d] u)).alloc (.cells #[.bool (decide (a < 0)), .slice A n c] t)
  exact ⟨_, _, _, _, _, _, _, _, rfl, rfl, by go_simp, by go_simp, by go_simp, by go_simp, F.lo, F.hi, F.below, by simp, by simp; omega, NoInt.new' _ _ _ _ _ _ (by simp), (NoInt.new _ _ _ _ _ _).alloc (by simp) _, by omega, Nat.le_succ_of_le h.below.size, h.below.size, by go_simp, by go_simp, by go_simp, by go_simp⟩
end

end Go.Proofs.YtjikhpdchockcaaDoor
end
section
/- Plain arithmetic of gains as the specification tells them: exact ends, cut a little beyond the greatest gains; it speaks of no walk. -/
namespace Go.Proofs.YtjikhpdchockcaaDoor
set_option linter.unusedVariables false
set_option linter.unusedSimpArgs false

/-- The exact ends of a pair's gains, and whether there are any. -/
def endsL (x : Tri) : Int × Int × Bool :=
  if x.1 = 0 then (-1000000000, 1000000000, cont x.2.1 x.2.2 0) else if x.1 < 0 then (flo (x.2.2 * 1000) x.1, cei (x.2.1 * 1000) x.1, true) else (flo (x.2.1 * 1000) x.1, cei (x.2.2 * 1000) x.1, true)
def nearL (z : Int) : Int := if 1000000001 < z then 1000000001 else if z < -1000000001 then -1000000001 else z
def nrw (s : Int × Int) (x : Tri) : Int × Int := (if s.1 < nearL (endsL x).1 then nearL (endsL x).1 else s.1, if nearL (endsL x).2.1 < s.2 then nearL (endsL x).2.1 else s.2)
def metGo (s : Int × Int) : List Tri → (Int × Int) × Bool
  | [] => (s, decide (s.1 ≤ s.2))
  | x :: r => if (endsL x).2.2 = true then metGo (nrw s x) r else (s, false)
def metL (l : List Tri) : (Int × Int) × Bool := metGo all0 l
def cl (s : Int × Int) : Int × Int := (min s.1 1000000001, max s.2 (-1000000001))

theorem ends_yes {x : Tri} (hok : okP x = true) (h : (endsL x).2.2 = true) : (endsL x).1 = gLo x ∧ (endsL x).2.1 = gHi x := by
  unfold endsL gLo gHi at *
  by_cases h0 : x.1 = 0
  · rw [if_pos h0] at h ⊢
    have hc : cont x.2.1 x.2.2 0 = true := h
    have hc : x.2.1 ≤ 0 ∧ 0 ≤ x.2.2 := by unfold cont at hc; simp at hc; exact hc.2
    have p0 : ¬ 0 < x.1 := by omega
    have n0 : ¬ x.1 < 0 := by omega
    rw [if_neg p0, if_neg p0, if_neg n0, if_neg n0, if_pos hc, if_pos hc]
    exact ⟨rfl, rfl⟩
  · by_cases h1 : x.1 < 0
    · have p0 : ¬ 0 < x.1 := by omega
      rw [if_neg h0, if_pos h1, if_neg p0, if_pos h1, if_neg p0, if_pos h1]; exact ⟨rfl, rfl⟩
    · have p0 : 0 < x.1 := by omega
      rw [if_neg h0, if_neg h1, if_pos p0, if_pos p0]; exact ⟨rfl, rfl⟩

theorem ends_no {x : Tri} (hok : okP x = true) (h : (endsL x).2.2 = false) : gLo x = 1 ∧ gHi x = 0 := by
  unfold endsL gLo gHi at *
  by_cases h0 : x.1 = 0
  · rw [if_pos h0] at h
    have hc : cont x.2.1 x.2.2 0 = false := h
    have hk := (okP_iff.1 hok).2
    have hv : vld x.2.1 x.2.2 = true := vld_iff.2 hk
    have hc : ¬(x.2.1 ≤ 0 ∧ 0 ≤ x.2.2) := by unfold cont at hc; rw [hv] at hc; simp at hc; omega
    have p0 : ¬ 0 < x.1 := by omega
    have n0 : ¬ x.1 < 0 := by omega
    rw [if_neg p0, if_neg p0, if_neg n0, if_neg n0, if_neg hc, if_neg hc]
    exact ⟨rfl, rfl⟩
  · rw [if_neg h0] at h
    by_cases h1 : x.1 < 0
    · rw [if_pos h1] at h; cases h
    · rw [if_neg h1] at h; cases h

theorem flo_le_cei_pos {a b v : Int} (hv : 0 < v) (h : a ≤ b) : flo a v ≤ cei b v := by
  unfold cei flo
  rw [if_pos hv, if_pos hv]
  have h1 : -b / v ≤ -(a / v) := by
    refine Int.le_trans (Int.ediv_le_ediv hv (show -b ≤ -a by omega)) ?_
    refine Int.le_of_lt_add_one (Int.ediv_lt_of_lt_mul hv ?_)
    have := Int.mul_ediv_add_emod a v
    have := Int.emod_nonneg a (show v ≠ 0 by omega)
    rw [Int.add_mul, Int.neg_mul, Int.mul_comm]
    omega
  omega
theorem flo_neg_neg (a v : Int) (hv : v < 0) : flo a v = flo (-a) (-v) := by
  unfold flo; rw [if_neg (by omega), if_pos (by omega)]
theorem flo_le_cei {a b v : Int} (hv : v ≠ 0) (h : if v < 0 then b ≤ a else a ≤ b) : flo a v ≤ cei b v := by
  by_cases h0 : v < 0
  · rw [if_pos h0] at h
    have e : cei b v = cei (-b) (-v) := by
      unfold cei; rw [flo_neg_neg (-b) v h0]
    rw [flo_neg_neg a v h0, e]
    exact flo_le_cei_pos (by omega) (by omega)
  · rw [if_neg h0] at h
    exact flo_le_cei_pos (by omega) h
theorem gLo_le {x : Tri} (hok : okP x = true) (h : (endsL x).2.2 = true) : gLo x ≤ gHi x := by
  have hk := (okP_iff.1 hok).2
  obtain ⟨e1, e2⟩ := ends_yes hok h
  rw [← e1, ← e2]
  unfold endsL
  by_cases h0 : x.1 = 0
  · rw [if_pos h0]; show (-1000000000 : Int) ≤ 1000000000; omega
  · by_cases h1 : x.1 < 0
    · rw [if_neg h0, if_pos h1]; exact flo_le_cei h0 (by rw [if_pos h1]; omega)
    · rw [if_neg h0, if_neg h1]; exact flo_le_cei h0 (by rw [if_neg h1]; omega)

theorem nrw_cl {s : Int × Int} (hs : Near s) {x : Tri} (hok : okP x = true) (h : (endsL x).2.2 = true) : nrw (cl s) x = cl (nar s x) := by
  obtain ⟨e1, e2⟩ := ends_yes hok h
  unfold nrw cl nar nearL
  rw [e1, e2]
  unfold Near at hs
  refine Prod.ext ?_ ?_
  · dsimp only; (repeat split) <;> omega
  · dsimp only; (repeat split) <;> omega
theorem cl_near {s : Int × Int} (hs : Near s) : decide ((cl s).1 ≤ (cl s).2) = vld s.1 s.2 ∧ (vld s.1 s.2 = true → cl s = s) := by
  have h1 := vld_near hs
  unfold Near at hs
  refine ⟨?_, fun h => ?_⟩
  · rw [Bool.eq_iff_iff, h1, decide_eq_true_iff]; unfold cl; dsimp only; omega
  · have := h1.1 h
    unfold cl
    refine Prod.ext ?_ ?_ <;> dsimp only <;> omega

theorem metGo_left (l : List Tri) (s : Int × Int) (hs : Near s) (hok : allOk l = true) :
    (metGo (cl s) l).2 = vld (left s l).1 (left s l).2 ∧ (vld (left s l).1 (left s l).2 = true → (metGo (cl s) l).1 = left s l) := by
  induction l generalizing s with
  | nil => exact cl_near hs
  | cons x r ih =>
    have hx : okP x = true ∧ allOk r = true := by simpa [allOk] using hok
    have ih := ih (nar s x) (near_nar hs x) hx.2
    cases h : (endsL x).2.2 with
    | true =>
      have e : metGo (cl s) (x :: r) = metGo (cl (nar s x)) r := by
        show (if (endsL x).2.2 = true then metGo (nrw (cl s) x) r else (cl s, false)) = _
        rw [if_pos h, nrw_cl hs hx.1 h]
      rw [e]; exact ih
    | false =>
      have e : metGo (cl s) (x :: r) = (cl s, false) := by
        show (if (endsL x).2.2 = true then metGo (nrw (cl s) x) r else (cl s, false)) = _
        rw [h]; rfl
      obtain ⟨g1, g2⟩ := ends_no hx.1 h
      have hl := left_le (nar s x) r
      have hv : vld (left s (x :: r)).1 (left s (x :: r)).2 = false := by
        show vld (left (nar s x) r).1 (left (nar s x) r).2 = false
        rw [← Bool.not_eq_true, vld_near (near_left (near_nar hs x) r)]
        have n1 : 1 ≤ (nar s x).1 := by unfold nar; rw [g1]; dsimp only; omega
        have n2 : (nar s x).2 ≤ 0 := by unfold nar; rw [g2]; dsimp only; omega
        omega
      rw [e, hv]
      exact ⟨rfl, fun h => by cases h⟩
theorem metL_left (l : List Tri) (hok : allOk l = true) : (metL l).2 = vld (left all0 l).1 (left all0 l).2 ∧ (vld (left all0 l).1 (left all0 l).2 = true → (metL l).1 = left all0 l) :=
  metGo_left l all0 near_all0 hok

/-- What the specification's Calibrate answers. -/
theorem calL_met (l : List Tri) : calL l = if allOk l = true then if (metL l).2 = true then ((metL l).1.1, (metL l).1.2, 0) else (0, 0, 8) else (0, 0, 1) := by
  unfold calL
  by_cases h : allOk l = true
  · rw [if_pos h, if_pos h]
    obtain ⟨e1, e2⟩ := metL_left l h
    rw [e1]
    by_cases hv : vld (left all0 l).1 (left all0 l).2 = true
    · rw [if_pos hv, if_pos hv, e2 hv]
    · rw [if_neg hv, if_neg hv]
  · rw [if_neg h, if_neg h]
theorem left_append (s : Int × Int) (a : List Tri) (x : Tri) : left s (a ++ [x]) = nar (left s a) x := by
  induction a generalizing s with
  | nil => rfl
  | cons y r ih => exact ih (nar s y)
theorem allOk_take {l : List Tri} (h : allOk l = true) (k : Nat) : allOk (l.take k) = true :=
  List.all_eq_true.2 fun x hx => List.all_eq_true.1 h x (List.mem_of_mem_take hx)
/-- A step of the specification's Broken. -/
theorem first_met {l : List Tri} (hok : allOk l = true) {k : Nat} (hk : k < l.length) (i : Int) :
    first (left all0 (l.take k)) (l.drop k) i = if (metL (l.take (k + 1))).2 = true then first (left all0 (l.take (k + 1))) (l.drop (k + 1)) (i + 1) else i := by
  have e : left all0 (l.take (k + 1)) = nar (left all0 (l.take k)) l[k] := by rw [List.take_succ_eq_append_getElem hk, left_append]
  rw [first_drop hk, (metL_left _ (allOk_take hok (k + 1))).1, e]
/-- What Gain answers (as gainL of SenW). -/
def gainL' (x : Tri) : Int × Int × Int :=
  if okP x = true then if gHi x < gLo x then (0, 0, 8) else if vld (gLo x) (gHi x) = true then (gLo x, gHi x, 0) else (0, 0, 9) else (0, 0, 1)
theorem gainL_ends {x : Tri} (hok : okP x = true) : gainL' x = if (endsL x).2.2 = true then if vld (endsL x).1 (endsL x).2.1 = true then ((endsL x).1, (endsL x).2.1, 0) else (0, 0, 9) else (0, 0, 8) := by
  unfold gainL'
  rw [if_pos hok]
  cases h : (endsL x).2.2 with
  | true =>
    obtain ⟨e1, e2⟩ := ends_yes hok h
    have := gLo_le hok h
    rw [if_neg (by omega), e1, e2]; rfl
  | false =>
    obtain ⟨e1, e2⟩ := ends_no hok h
    rw [if_pos (by omega)]; rfl

end Go.Proofs.YtjikhpdchockcaaDoor
end
