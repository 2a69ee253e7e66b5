import Derived.Test.YtpnoinkiblnplaaDoorJAG
import Derived.Test.YtpnoinkiblnplaaDoorJAH
import Derived.Test.YtpnoinkiblnplaaDoorJAI
section
/- Where the plasma may be (Where): plain functions; a region that stores into three old blocks, over this seat's translation (written by mk_wh.py). -/
namespace Go.Proofs.YtpnoinkiblnplaaDoor
set_option linter.unusedVariables false
set_option linter.unusedSimpArgs false
open Go.RowKit Go.Shelf

/-- From W to w': every block of W but blocks x, y and z is as it was; these three stand, with their marks. -/
structure Reg3 (x y z : Nat) (W w' : World) : Prop where
  os : w'.os = W.os
  tape : w'.tape = W.tape
  output : w'.output = W.output
  size : W.heap.size ≤ w'.heap.size
  block : ∀ k, k < W.heap.size → k ≠ x → k ≠ y → k ≠ z → w'.heap[k]? = W.heap[k]?
  some : ∀ b o, b < W.heap.size → (w'.cell? ⟨b, o, none⟩).isSome = (W.cell? ⟨b, o, none⟩).isSome
  frozen : ∀ b o, b < W.heap.size → w'.frozen? ⟨b, o, none⟩ = W.frozen? ⟨b, o, none⟩
theorem Reg3.refl (x y z : Nat) (W : World) : Reg3 x y z W W := ⟨rfl, rfl, rfl, Nat.le_refl _, fun _ _ _ _ _ => rfl, fun _ _ _ => rfl, fun _ _ _ => rfl⟩
theorem Reg3.cells {x y z : Nat} {W w1 : World} (h : Reg3 x y z W w1) : ∀ b o, b < W.heap.size → b ≠ x → b ≠ y → b ≠ z → w1.cell? ⟨b, o, none⟩ = W.cell? ⟨b, o, none⟩ := fun b o hb hx hy hz => World.cell?_of_block (w := W) (a := ⟨b, o, none⟩) (h.block b hb hx hy hz)
theorem Reg3.drew {x y z : Nat} {W w1 : World} (h : Reg3 x y z W w1) : Reg3 x y z W w1.drew :=
  ⟨h.os, h.tape, h.output, h.size, h.block, fun b o hb => by rw [World.cell?_drew]; exact h.some b o hb, fun b o hb => by rw [World.frozen?_drew]; exact h.frozen b o hb⟩
theorem Reg3.call {x y z : Nat} {W w1 w2 : World} (h : Reg3 x y z W w1) (hb : Below w1.heap.size w1 w2) : Reg3 x y z W w2 :=
  ⟨hb.os.trans h.os, hb.tape.trans h.tape, hb.output.trans h.output, Nat.le_trans h.size hb.size, fun k hk hx hy hz => (hb.block k (Nat.lt_of_lt_of_le hk h.size)).trans (h.block k hk hx hy hz),
    fun b o hw => by rw [hb.cell (p := ⟨b, o, none⟩) (Nat.lt_of_lt_of_le hw h.size)]; exact h.some b o hw, fun b o hw => by rw [hb.frozen (p := ⟨b, o, none⟩) (Nat.lt_of_lt_of_le hw h.size)]; exact h.frozen b o hw⟩
theorem Reg3.alloc {x y z : Nat} {W w1 : World} (h : Reg3 x y z W w1) (o : Obj) : Reg3 x y z W (w1.alloc o) :=
  h.call ((Below.refl _ _).alloc (Nat.le_refl _) o)
theorem Reg3.setCell {x y z : Nat} {W w1 : World} (h : Reg3 x y z W w1) {p : Addr} (hp : p.block = x ∨ p.block = y ∨ p.block = z ∨ W.heap.size ≤ p.block) (v : Value) : Reg3 x y z W (w1.setCell p v) :=
  ⟨h.os, h.tape, h.output, by rw [World.size_setCell]; exact h.size, fun k hk hx hy hz => (Below.heap_setCell _ _ _ _ (by omega)).trans (h.block k hk hx hy hz),
    fun b o hw => by rw [isSome_setCell]; exact h.some b o hw, fun b o hw => by rw [World.frozen?_setCell]; exact h.frozen b o hw⟩
theorem Reg3.drewN {x y z : Nat} {W w1 : World} (h : Reg3 x y z W w1) (n : Nat) : Reg3 x y z W (w1.drewN n) :=
  ⟨h.os, h.tape, h.output, h.size, h.block, fun b o hb => h.some b o hb, fun b o hb => h.frozen b o hb⟩
theorem Reg3.drewN2 (x y z : Nat) (W : World) (n m : Nat) : Reg3 x y z (W.drewN n) (W.drewN m) := ⟨rfl, rfl, rfl, Nat.le_refl _, fun _ _ _ _ _ => rfl, fun _ _ _ => rfl, fun _ _ _ => rfl⟩


theorem Reg3.out {x y z : Nat} {w W w1 : World} (h : Reg3 x y z W w1) (h0 : Below w.heap.size w W) (hx : w.heap.size ≤ x) (hy : w.heap.size ≤ y) (hz : w.heap.size ≤ z) : Below w.heap.size w w1 :=
  ⟨h.os.trans h0.os, h.tape.trans h0.tape, h.output.trans h0.output, Nat.le_trans h0.size h.size, fun k hk => (h.block k (Nat.lt_of_lt_of_le hk h0.size) (by omega) (by omega) (by omega)).trans (h0.block k hk)⟩
/-- The three spans of Where. -/
structure St where
  (r1 r2 z1 z2 c1 c2 : Int)
def St.zero : St := ⟨0, 0, 0, 0, 0, 0⟩
def St.init (X Y lo hi : Int) : St := ⟨X, X, Y, Y, lo, hi⟩
def St.hull (s : St) (X Y lo hi : Int) : St := ⟨min s.r1 X, max s.r2 X, min s.z1 Y, max s.z2 Y, min s.c1 lo, max s.c2 hi⟩
def St.ok (s : St) : Bool := vld s.r1 s.r2 && (vld s.z1 s.z2 && vld s.c1 s.c2)
def okW (M : MachD) (x : Tri) : Bool := decide ((cellL M x.1).2.2 = 0) && vld x.2.1 x.2.2
def stepW (M : MachD) (b : Bool) (s : St) (x : Tri) : St := if b = true then St.init (cellL M x.1).1 (cellL M x.1).2.1 x.2.1 x.2.2 else s.hull (cellL M x.1).1 (cellL M x.1).2.1 x.2.1 x.2.2
def goW (M : MachD) : Bool → St → List Tri → Option St
  | _, s, [] => some s
  | b, s, x :: r => if okW M x = true then goW M false (stepW M b s x) r else none
def whereL (M : MachD) (l : List Tri) : St × Int :=
  if checkC M = 0 then match goW M true .zero l with
    | none => (.zero, 1)
    | some s => if l.length = 0 then (.zero, 8) else (s, 0)
  else (.zero, 1)
abbrev whereV (p : St × Int) : Value := .tuple #[.agg #[.int .i64 p.1.r1, .int .i64 p.1.r2], .agg #[.int .i64 p.1.z1, .int .i64 p.1.z2], .agg #[.int .i64 p.1.c1, .int .i64 p.1.c2], .int .i64 p.2]
theorem goW_drop {M : MachD} {b : Bool} {s : St} {l : List Tri} {k : Nat} {x : Tri} (h : l[k]? = some x) : goW M b s (l.drop k) = if okW M x = true then goW M false (stepW M b s x) (l.drop (k + 1)) else none := by
  obtain ⟨hk, rfl⟩ := List.getElem?_eq_some_iff.1 h
  rw [List.drop_eq_getElem_cons hk]; rfl
theorem vld_hull {a b c d : Int} (h1 : vld a b = true) (h2 : vld c d = true) : vld (min a c) (max b d) = true := by
  rw [vld_iff] at *; omega
theorem hullL_ok {a b c d : Int} (h1 : vld a b = true) (h2 : vld c d = true) : hullL a b c d = (min a c, max b d, 0) := by
  unfold hullL; rw [h1, h2]; rfl
theorem St.hull_ok {s : St} {X Y lo hi : Int} (h : s.ok = true) (h1 : vld X X = true) (h2 : vld Y Y = true) (h3 : vld lo hi = true) : (s.hull X Y lo hi).ok = true := by
  simp only [St.ok, Bool.and_eq_true] at h ⊢
  exact ⟨vld_hull h.1 h1, vld_hull h.2.1 h2, vld_hull h.2.2 h3⟩
theorem St.init_ok {X Y lo hi : Int} (h1 : vld X X = true) (h2 : vld Y Y = true) (h3 : vld lo hi = true) : (St.init X Y lo hi).ok = true := by
  simp only [St.ok, Bool.and_eq_true]; exact ⟨h1, h2, h3⟩
theorem St.init_hull {X Y lo hi : Int} : (St.init X Y lo hi).hull X Y lo hi = St.init X Y lo hi := by
  simp [St.hull, St.init]
/-- A cell's place is a point that a span holds. -/
theorem cellL_vld {M : MachD} {i : Int} (h : (cellL M i).2.2 = 0) : vld (cellL M i).1 (cellL M i).1 = true ∧ vld (cellL M i).2.1 (cellL M i).2.1 = true := by
  unfold cellL at *
  by_cases hc : checkC M = 0
  · rw [if_pos hc] at h ⊢
    by_cases hw : wthn i 0 (M.grid.nr * M.grid.nz - 1) = true
    · rw [if_pos hw]
      obtain ⟨i0, i1⟩ := wthn_iff.1 hw
      have hf := check_fine hc
      have := fine_cells hf
      obtain ⟨⟨p0, p1⟩, q0, q1⟩ := cell_bd hf i0 (by omega)
      obtain ⟨r0, r1, z0, z1, _, _, _, _, _, _⟩ := hf
      rw [vld_iff, vld_iff]
      unfold cellR cellZ
      dsimp only
      omega
    · rw [if_neg hw] at h; simp at h
  · rw [if_neg hc] at h; simp at h

theorem resW {fn : Func} {a b c u : Tmp} (h : fn.results = #[.cell a 49, .cell b 49, .cell c 49, .tmp u]) (tmps : Array Value) (W : World) (x y z : Nat) (v0 v1 v2 v3 v4 v5 v6 : Value)
    (hp : tmps.getD a undef = .pointer (some ⟨x, 0, none⟩)) (hq : tmps.getD b undef = .pointer (some ⟨y, 0, none⟩)) (hr : tmps.getD c undef = .pointer (some ⟨z, 0, none⟩)) (hu : tmps.getD u undef = v6)
    (e0 : W.cell? ⟨x, 0, none⟩ = some v0) (e1 : W.cell? ⟨x, 1, none⟩ = some v1) (e2 : W.cell? ⟨y, 0, none⟩ = some v2) (e3 : W.cell? ⟨y, 1, none⟩ = some v3) (e4 : W.cell? ⟨z, 0, none⟩ = some v4) (e5 : W.cell? ⟨z, 1, none⟩ = some v5) :
    (results fn tmps).run Tryd.prog W = .ok (.tuple #[.agg #[v0, v1], .agg #[v2, v3], .agg #[v4, v5], v6]) W := by
  have hp' : tmps[a]?.getD undef = .pointer (some ⟨x, 0, none⟩) := by simpa using hp
  have hq' : tmps[b]?.getD undef = .pointer (some ⟨y, 0, none⟩) := by simpa using hq
  have hr' : tmps[c]?.getD undef = .pointer (some ⟨z, 0, none⟩) := by simpa using hr
  have hu' : tmps[u]?.getD undef = v6 := by simpa using hu
  simp [results, h, hp', hq', hr', hu', go_sem, e0, e1, e2, e3, e4, e5]

end Go.Proofs.YtpnoinkiblnplaaDoor
end
