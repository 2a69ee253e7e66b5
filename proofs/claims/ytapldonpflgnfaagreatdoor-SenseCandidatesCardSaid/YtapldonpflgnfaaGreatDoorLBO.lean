import Derived.Test.YtapldonpflgnfaaGreatDoorLAB
import Derived.Test.YtapldonpflgnfaaGreatDoorLAM
import Derived.Test.YtapldonpflgnfaaGreatDoorLAV
import Derived.Test.YtapldonpflgnfaaGreatDoorLBB
import Derived.Test.YtapldonpflgnfaaGreatDoorLBC
import Derived.Test.YtapldonpflgnfaaGreatDoorLBD
import Derived.Test.YtapldonpflgnfaaGreatDoorLBN
import Derived.Test.YtapldonpflgnfaaGreatDoorRows
import Derived.KernelRfl
import Derived.Laws.StructEq
namespace Go.Proofs.YtapldonpflgnfaaGreatDoor
set_option linter.unusedVariables false
set_option linter.unusedSimpArgs false
section
open Go.RowKit
end
section
open Go.RowKit Go.Shelf
def briefB (la lb lc ld p q s n : Nat) : Bool := (decide (la ≤ 40) && (decide (lb ≤ 40) && (decide (lc ≤ 40) && (decide (ld ≤ 60) && (decide (p ≤ 100) && (decide (q ≤ 100) && (decide (s ≤ 200) && decide (n ≤ 100))))))))
set_option maxRecDepth 100000 in
set_option maxHeartbeats 4000000 in
theorem brief_any (name : ByteArray) (A B C D : Option Addr) (la ca lb cb lc cc ld cd : Nat) (r z nr nz step : Int) (P Q S F : Option Addr) (p pc q qc s sc n nc : Nat) (w : World) :
  Calls Tryz.prog 23 #[.agg #[.string name, .slice A la ca, .slice B lb cb, .slice C lc cc, .int .i64 r, .int .i64 z, .int .i64 nr, .int .i64 nz, .int .i64 step, .slice D ld cd], .agg #[.slice P p pc, .slice Q q qc, .slice S s sc], .slice F n nc] w (Ret (.bool (briefB la lb lc ld p q s n)) w) := by
 have HE : Hid (briefB la lb lc ld p q s n = (decide (la ≤ 40) && (decide (lb ≤ 40) && (decide (lc ≤ 40) && (decide (ld ≤ 60) && (decide (p ≤ 100) && (decide (q ≤ 100) && (decide (s ≤ 200) && decide (n ≤ 100))))))))) := Lib.hid rfl
 generalize briefB la lb lc ld p q s n = G at *
 by_cases k0 : la ≤ 40
 rotate_left
 ·have HF : Hid (false = G) := Lib.hid (by rw [HE.out, decide_eq_false k0]; simp)
  clear HE
  go_enter Tryz.func23, Tryz.ntmps23
  go_wp2_with fail
  go_ret
  exact ⟨by rw [← HF.out]; rfl, by (repeat first | with_reducible exact Below.refl _ _ | (with_reducible refine Below.alloc ?_ ?_ _; rotate_left; exact (by first | omega | (simp; done))))⟩
 by_cases k1 : lb ≤ 40
 rotate_left
 ·have HF : Hid (false = G) := Lib.hid (by rw [HE.out, decide_eq_false k1]; simp)
  clear HE
  go_enter Tryz.func23, Tryz.ntmps23
  go_wp2_with fail
  go_ret
  exact ⟨by rw [← HF.out]; rfl, by (repeat first | with_reducible exact Below.refl _ _ | (with_reducible refine Below.alloc ?_ ?_ _; rotate_left; exact (by first | omega | (simp; done))))⟩
 by_cases k2 : lc ≤ 40
 rotate_left
 ·have HF : Hid (false = G) := Lib.hid (by rw [HE.out, decide_eq_false k2]; simp)
  clear HE
  go_enter Tryz.func23, Tryz.ntmps23
  go_wp2_with fail
  go_ret
  exact ⟨by rw [← HF.out]; rfl, by (repeat first | with_reducible exact Below.refl _ _ | (with_reducible refine Below.alloc ?_ ?_ _; rotate_left; exact (by first | omega | (simp; done))))⟩
 by_cases k3 : ld ≤ 60
 rotate_left
 ·have HF : Hid (false = G) := Lib.hid (by rw [HE.out, decide_eq_false k3]; simp)
  clear HE
  go_enter Tryz.func23, Tryz.ntmps23
  go_wp2_with fail
  go_ret
  exact ⟨by rw [← HF.out]; rfl, by (repeat first | with_reducible exact Below.refl _ _ | (with_reducible refine Below.alloc ?_ ?_ _; rotate_left; exact (by first | omega | (simp; done))))⟩
 by_cases k4 : p ≤ 100
 rotate_left
 ·have HF : Hid (false = G) := Lib.hid (by rw [HE.out, decide_eq_false k4]; simp)
  clear HE
  go_enter Tryz.func23, Tryz.ntmps23
  go_wp2_with fail
  go_ret
  exact ⟨by rw [← HF.out]; rfl, by (repeat first | with_reducible exact Below.refl _ _ | (with_reducible refine Below.alloc ?_ ?_ _; rotate_left; exact (by first | omega | (simp; done))))⟩
 by_cases k5 : q ≤ 100
 rotate_left
 ·have HF : Hid (false = G) := Lib.hid (by rw [HE.out, decide_eq_false k5]; simp)
  clear HE
  go_enter Tryz.func23, Tryz.ntmps23
  go_wp2_with fail
  go_ret
  exact ⟨by rw [← HF.out]; rfl, by (repeat first | with_reducible exact Below.refl _ _ | (with_reducible refine Below.alloc ?_ ?_ _; rotate_left; exact (by first | omega | (simp; done))))⟩
 by_cases k6 : s ≤ 200
 rotate_left
 ·have HF : Hid (false = G) := Lib.hid (by rw [HE.out, decide_eq_false k6]; simp)
  clear HE
  go_enter Tryz.func23, Tryz.ntmps23
  go_wp2_with fail
  go_ret
  exact ⟨by rw [← HF.out]; rfl, by (repeat first | with_reducible exact Below.refl _ _ | (with_reducible refine Below.alloc ?_ ?_ _; rotate_left; exact (by first | omega | (simp; done))))⟩
 by_cases k7 : n ≤ 100
 rotate_left
 ·have HF : Hid (false = G) := Lib.hid (by rw [HE.out, decide_eq_false k7]; simp)
  clear HE
  have dn : decide ((n : Int) ≤ 100) = false := decide_eq_false (by omega)
  go_enter Tryz.func23, Tryz.ntmps23
  go_wp2_with fail
  go_ret
  exact ⟨by rw [← HF.out]; rfl, by (repeat first | with_reducible exact Below.refl _ _ | (with_reducible refine Below.alloc ?_ ?_ _; rotate_left; exact (by first | omega | (simp; done))))⟩
 have HF : Hid (true = G) := Lib.hid (by rw [HE.out, decide_eq_true k0, decide_eq_true k1, decide_eq_true k2, decide_eq_true k3, decide_eq_true k4, decide_eq_true k5, decide_eq_true k6, decide_eq_true k7]; rfl)
 clear HE
 have dn : decide ((n : Int) ≤ 100) = true := decide_eq_true (by omega)
 go_enter Tryz.func23, Tryz.ntmps23
 go_wp2_with fail
 go_ret
 exact ⟨by rw [← HF.out]; rfl, by (repeat first | with_reducible exact Below.refl _ _ | (with_reducible refine Below.alloc ?_ ?_ _; rotate_left; exact (by first | omega | (simp; done))))⟩
theorem brief_bd {la lb lc ld p q s n : Nat} (h : briefB la lb lc ld p q s n = true) : la ≤ 40 ∧ lb ≤ 40 ∧ lc ≤ 40 ∧ ld ≤ 60 ∧ p ≤ 100 ∧ q ≤ 100 ∧ s ≤ 200 ∧ n ≤ 100 := by
 simpa [briefB, Bool.and_eq_true, decide_eq_true_iff] using h
end
section
open Go.RowKit Go.Shelf
end
section
open Go.RowKit Go.Shelf
structure Reg3 (x y z : Nat) (W w' : World) : Prop where
 os : w'.os = W.os
 tape : w'.tape = W.tape
 output : w'.output = W.output
 size : W.heap.size ≤ w'.heap.size
 block : ∀ k, k < W.heap.size → k ≠ x → k ≠ y → k ≠ z → w'.heap[k]? = W.heap[k]?
 some : ∀ b o, b < W.heap.size → (w'.cell? ⟨b, o, none⟩).isSome = (W.cell? ⟨b, o, none⟩).isSome
 frozen : ∀ b o, b < W.heap.size → w'.frozen? ⟨b, o, none⟩ = W.frozen? ⟨b, o, none⟩
theorem Reg3.refl (x y z : Nat) (W : World) : Reg3 x y z W W := ⟨rfl, rfl, rfl, Nat.le_refl _, fun _ _ _ _ _ => rfl, fun _ _ _ => rfl, fun _ _ _ => rfl⟩
theorem Reg3.cells {x y z : Nat} {W w1 : World} (h : Reg3 x y z W w1) : ∀ b o, b < W.heap.size → b ≠ x → b ≠ y → b ≠ z → w1.cell? ⟨b, o, none⟩ = W.cell? ⟨b, o, none⟩ := fun b o hb hx hy hz => World.cell?_of_block (w := W) (a := ⟨b, o, none⟩) (h.block b hb hx hy hz)
theorem Reg3.drew {x y z : Nat} {W w1 : World} (h : Reg3 x y z W w1) : Reg3 x y z W w1.drew :=
 ⟨h.os, h.tape, h.output, h.size, h.block, fun b o hb => by rw [World.cell?_drew]; exact h.some b o hb, fun b o hb => by rw [World.frozen?_drew]; exact h.frozen b o hb⟩
theorem Reg3.call {x y z : Nat} {W w1 w2 : World} (h : Reg3 x y z W w1) (hb : Below w1.heap.size w1 w2) : Reg3 x y z W w2 :=
 ⟨hb.os.trans h.os, hb.tape.trans h.tape, hb.output.trans h.output, Nat.le_trans h.size hb.size, fun k hk hx hy hz => (hb.block k (Nat.lt_of_lt_of_le hk h.size)).trans (h.block k hk hx hy hz),
  fun b o hw => by rw [hb.cell (p := ⟨b, o, none⟩) (Nat.lt_of_lt_of_le hw h.size)]; exact h.some b o hw, fun b o hw => by rw [hb.frozen (p := ⟨b, o, none⟩) (Nat.lt_of_lt_of_le hw h.size)]; exact h.frozen b o hw⟩
theorem Reg3.alloc {x y z : Nat} {W w1 : World} (h : Reg3 x y z W w1) (o : Obj) : Reg3 x y z W (w1.alloc o) :=
 h.call ((Below.refl _ _).alloc (Nat.le_refl _) o)
theorem Reg3.setCell {x y z : Nat} {W w1 : World} (h : Reg3 x y z W w1) {p : Addr} (hp : p.block = x ∨ p.block = y ∨ p.block = z ∨ W.heap.size ≤ p.block) (v : Value) : Reg3 x y z W (w1.setCell p v) :=
 ⟨h.os, h.tape, h.output, by rw [World.size_setCell]; exact h.size, fun k hk hx hy hz => (Below.heap_setCell _ _ _ _ (by omega)).trans (h.block k hk hx hy hz),
  fun b o hw => by rw [isSome_setCell]; exact h.some b o hw, fun b o hw => by rw [World.frozen?_setCell]; exact h.frozen b o hw⟩
theorem Reg3.drewN {x y z : Nat} {W w1 : World} (h : Reg3 x y z W w1) (n : Nat) : Reg3 x y z W (w1.drewN n) :=
 ⟨h.os, h.tape, h.output, h.size, h.block, fun b o hb => h.some b o hb, fun b o hb => h.frozen b o hb⟩
theorem Reg3.drewN2 (x y z : Nat) (W : World) (n m : Nat) : Reg3 x y z (W.drewN n) (W.drewN m) := ⟨rfl, rfl, rfl, Nat.le_refl _, fun _ _ _ _ _ => rfl, fun _ _ _ => rfl, fun _ _ _ => rfl⟩
theorem Reg3.out {x y z : Nat} {w W w1 : World} (h : Reg3 x y z W w1) (h0 : Below w.heap.size w W) (hx : w.heap.size ≤ x) (hy : w.heap.size ≤ y) (hz : w.heap.size ≤ z) : Below w.heap.size w w1 :=
 ⟨h.os.trans h0.os, h.tape.trans h0.tape, h.output.trans h0.output, Nat.le_trans h0.size h.size, fun k hk => (h.block k (Nat.lt_of_lt_of_le hk h0.size) (by omega) (by omega) (by omega)).trans (h0.block k hk)⟩
structure St where
 (r1 r2 z1 z2 c1 c2 : Int)
def St.zero : St := ⟨0, 0, 0, 0, 0, 0⟩
def St.init (X Y lo hi : Int) : St := ⟨X, X, Y, Y, lo, hi⟩
def St.hull (s : St) (X Y lo hi : Int) : St := ⟨min s.r1 X, max s.r2 X, min s.z1 Y, max s.z2 Y, min s.c1 lo, max s.c2 hi⟩
def St.ok (s : St) : Bool := vld s.r1 s.r2 && (vld s.z1 s.z2 && vld s.c1 s.c2)
def okW (M : MachD) (x : Tri) : Bool := decide ((cellL M x.1).2.2 = 0) && vld x.2.1 x.2.2
def stepW (M : MachD) (b : Bool) (s : St) (x : Tri) : St := if b = true then St.init (cellL M x.1).1 (cellL M x.1).2.1 x.2.1 x.2.2 else s.hull (cellL M x.1).1 (cellL M x.1).2.1 x.2.1 x.2.2
def goW (M : MachD) : Bool → St → List Tri → Option St
 | _, s, [] => some s
 | b, s, x :: r => if okW M x = true then goW M false (stepW M b s x) r else none
def whereL (M : MachD) (l : List Tri) : St × Int :=
 if checkC M = 0 then match goW M true .zero l with
  | none => (.zero, 1)
  | some s => if l.length = 0 then (.zero, 8) else (s, 0)
 else (.zero, 1)
abbrev whereV (p : St × Int) : Value := .tuple #[.agg #[.int .i64 p.1.r1, .int .i64 p.1.r2], .agg #[.int .i64 p.1.z1, .int .i64 p.1.z2], .agg #[.int .i64 p.1.c1, .int .i64 p.1.c2], .int .i64 p.2]
theorem goW_drop {M : MachD} {b : Bool} {s : St} {l : List Tri} {k : Nat} {x : Tri} (h : l[k]? = some x) : goW M b s (l.drop k) = if okW M x = true then goW M false (stepW M b s x) (l.drop (k + 1)) else none := by
 obtain ⟨hk, rfl⟩ := List.getElem?_eq_some_iff.1 h
 rw [List.drop_eq_getElem_cons hk]; rfl
theorem vld_hull {a b c d : Int} (h1 : vld a b = true) (h2 : vld c d = true) : vld (min a c) (max b d) = true := by
 rw [vld_iff] at *; omega
theorem cellL_vld {M : MachD} {i : Int} (h : (cellL M i).2.2 = 0) : vld (cellL M i).1 (cellL M i).1 = true ∧ vld (cellL M i).2.1 (cellL M i).2.1 = true := by
 unfold cellL at *
 by_cases hc : checkC M = 0
 ·rw [if_pos hc] at h ⊢
  by_cases hw : wthn i 0 (M.grid.nr * M.grid.nz - 1) = true
  ·rw [if_pos hw]
   obtain ⟨i0, i1⟩ := wthn_iff.1 hw
   have hf := check_fine hc
   have := fine_cells hf
   obtain ⟨⟨p0, p1⟩, q0, q1⟩ := cell_bd hf i0 (by omega)
   obtain ⟨r0, r1, z0, z1, _, _, _, _, _, _⟩ := hf
   rw [vld_iff, vld_iff]
   unfold cellR cellZ
   dsimp only
   omega
  ·rw [if_neg hw] at h; simp at h
 ·rw [if_neg hc] at h; simp at h
end
end Go.Proofs.YtapldonpflgnfaaGreatDoor
