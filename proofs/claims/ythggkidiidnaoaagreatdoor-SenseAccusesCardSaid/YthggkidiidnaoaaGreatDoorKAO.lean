import Derived.Test.YthggkidiidnaoaaGreatDoorKAH
import Derived.Test.YthggkidiidnaoaaGreatDoorKAI
import Derived.Test.YthggkidiidnaoaaGreatDoorKAM
import Derived.Test.YthggkidiidnaoaaGreatDoorRows
import Derived.KernelRfl
import Derived.Laws.StructEq
namespace Go.Proofs.YthggkidiidnaoaaGreatDoor
set_option linter.unusedVariables false
set_option linter.unusedSimpArgs false
section
open Go.RowKit Go.Shelf
attribute [local go_sem] Oper.semAt_some
set_option maxRecDepth 100000 in
set_option maxHeartbeats 16000000 in
theorem fluxAt_bare (name : ByteArray) (A B Cl D : Option Addr) (ca cb lc cl ld cd : Nat) (g : GridD) (hg : g.Fine) (A1 B1 C : Option Addr) (na qa nb qb len cap : Nat) (zs : List Int) (p0 p1 : Int) (w : World) (hI : IsT 1 intCells w C len zs) (hl : len ≤ 1000) :
  Calls Tryz.prog 79 #[.agg #[.string name, .slice A 0 ca, .slice B 0 cb, .slice Cl lc cl, .int .i64 g.r, .int .i64 g.z, .int .i64 g.nr, .int .i64 g.nz, .int .i64 g.step, .slice D ld cd], .agg #[.slice A1 na qa, .slice B1 nb qb, .slice C len cap], .agg #[.int .i64 p0, .int .i64 p1]] w
   (Ret (.int .i64 (fluxW (p0, p1) 0 (cellSrc g zs len))) w) := by
 refine (callsIn_wide (n := 8)).1 ?_
 have h87 : Fence.wide.fn 122 := trivial
 have h88 : Fence.wide.fn 123 := trivial
 have hP := fun (pre : List Src) (x : Src) => fluxW_snoc (p0, p1) 0 pre x
 have HP := Lib.hid hP
 clear hP
 refine callsIn_of_wp_marks Tryz.func79 rfl trivial ?_ rfl
 simp only [Tryz.ntmps79, List.size_toArray, List.length_cons, List.length_nil, Nat.reduceAdd, Nat.reduceSub, Array.replicate_succ, Array.replicate_zero, List.push_toArray, List.append_toArray, List.nil_append, List.cons_append]
 gi_wp2_with (gi_at_call 122; refine (sources_in _ _ _ _).mono ?_; rintro e w' ⟨rfl, rfl⟩)
 have hB0 : Below w.heap.size w ((((((w.alloc (.cells #[.string name, .slice A 0 ca, .slice B 0 cb, .slice Cl lc cl, .int .i64 g.r, .int .i64 g.z, .int .i64 g.nr, .int .i64 g.nz, .int .i64 g.step, .slice D ld cd] 29)).alloc (.cells #[.slice A1 na qa, .slice B1 nb qb, .slice C len cap] 32)).alloc (.cells #[.int .i64 p0, .int .i64 p1] 76)).alloc (.cells #[.int .i64 0] 3)).alloc (.cells #[.string name, .slice A 0 ca, .slice B 0 cb, .slice Cl lc cl, .int .i64 g.r, .int .i64 g.z, .int .i64 g.nr, .int .i64 g.nz, .int .i64 g.step, .slice D ld cd] 29)).alloc (.cells #[.slice A1 na qa, .slice B1 nb qb, .slice C len cap] 32)) := by (repeat first | with_reducible exact Below.refl _ _ | (with_reducible refine Below.alloc ?_ ?_ _; rotate_left; exact (by first | omega | (simp; done) | (simp; omega))))
 have hsz : ((((((w.alloc (.cells #[.string name, .slice A 0 ca, .slice B 0 cb, .slice Cl lc cl, .int .i64 g.r, .int .i64 g.z, .int .i64 g.nr, .int .i64 g.nz, .int .i64 g.step, .slice D ld cd] 29)).alloc (.cells #[.slice A1 na qa, .slice B1 nb qb, .slice C len cap] 32)).alloc (.cells #[.int .i64 p0, .int .i64 p1] 76)).alloc (.cells #[.int .i64 0] 3)).alloc (.cells #[.string name, .slice A 0 ca, .slice B 0 cb, .slice Cl lc cl, .int .i64 g.r, .int .i64 g.z, .int .i64 g.nr, .int .i64 g.nz, .int .i64 g.step, .slice D ld cd] 29)).alloc (.cells #[.slice A1 na qa, .slice B1 nb qb, .slice C len cap] 32)).heap.size = w.heap.size + 1 + 1 + 1 + 1 + 1 + 1 := by simp
 have s0 : ((((((w.alloc (.cells #[.string name, .slice A 0 ca, .slice B 0 cb, .slice Cl lc cl, .int .i64 g.r, .int .i64 g.z, .int .i64 g.nr, .int .i64 g.nz, .int .i64 g.step, .slice D ld cd] 29)).alloc (.cells #[.slice A1 na qa, .slice B1 nb qb, .slice C len cap] 32)).alloc (.cells #[.int .i64 p0, .int .i64 p1] 76)).alloc (.cells #[.int .i64 0] 3)).alloc (.cells #[.string name, .slice A 0 ca, .slice B 0 cb, .slice Cl lc cl, .int .i64 g.r, .int .i64 g.z, .int .i64 g.nr, .int .i64 g.nz, .int .i64 g.step, .slice D ld cd] 29)).alloc (.cells #[.slice A1 na qa, .slice B1 nb qb, .slice C len cap] 32)).cell? ⟨w.heap.size + 1 + 1 + 1, 0, none⟩ = some (.int .i64 0) := by go_simp
 have sf : ((((((w.alloc (.cells #[.string name, .slice A 0 ca, .slice B 0 cb, .slice Cl lc cl, .int .i64 g.r, .int .i64 g.z, .int .i64 g.nr, .int .i64 g.nz, .int .i64 g.step, .slice D ld cd] 29)).alloc (.cells #[.slice A1 na qa, .slice B1 nb qb, .slice C len cap] 32)).alloc (.cells #[.int .i64 p0, .int .i64 p1] 76)).alloc (.cells #[.int .i64 0] 3)).alloc (.cells #[.string name, .slice A 0 ca, .slice B 0 cb, .slice Cl lc cl, .int .i64 g.r, .int .i64 g.z, .int .i64 g.nr, .int .i64 g.nz, .int .i64 g.step, .slice D ld cd] 29)).alloc (.cells #[.slice A1 na qa, .slice B1 nb qb, .slice C len cap] 32)).frozen? ⟨w.heap.size + 1 + 1 + 1, 0, none⟩ = false := by go_simp
 have q0 : ((((((w.alloc (.cells #[.string name, .slice A 0 ca, .slice B 0 cb, .slice Cl lc cl, .int .i64 g.r, .int .i64 g.z, .int .i64 g.nr, .int .i64 g.nz, .int .i64 g.step, .slice D ld cd] 29)).alloc (.cells #[.slice A1 na qa, .slice B1 nb qb, .slice C len cap] 32)).alloc (.cells #[.int .i64 p0, .int .i64 p1] 76)).alloc (.cells #[.int .i64 0] 3)).alloc (.cells #[.string name, .slice A 0 ca, .slice B 0 cb, .slice Cl lc cl, .int .i64 g.r, .int .i64 g.z, .int .i64 g.nr, .int .i64 g.nz, .int .i64 g.step, .slice D ld cd] 29)).alloc (.cells #[.slice A1 na qa, .slice B1 nb qb, .slice C len cap] 32)).cell? ⟨w.heap.size + 1 + 1, 0, none⟩ = some (.int .i64 p0) := by go_simp
 have q1 : ((((((w.alloc (.cells #[.string name, .slice A 0 ca, .slice B 0 cb, .slice Cl lc cl, .int .i64 g.r, .int .i64 g.z, .int .i64 g.nr, .int .i64 g.nz, .int .i64 g.step, .slice D ld cd] 29)).alloc (.cells #[.slice A1 na qa, .slice B1 nb qb, .slice C len cap] 32)).alloc (.cells #[.int .i64 p0, .int .i64 p1] 76)).alloc (.cells #[.int .i64 0] 3)).alloc (.cells #[.string name, .slice A 0 ca, .slice B 0 cb, .slice Cl lc cl, .int .i64 g.r, .int .i64 g.z, .int .i64 g.nr, .int .i64 g.nz, .int .i64 g.step, .slice D ld cd] 29)).alloc (.cells #[.slice A1 na qa, .slice B1 nb qb, .slice C len cap] 32)).cell? ⟨w.heap.size + 1 + 1, 1, none⟩ = some (.int .i64 p1) := by go_simp
 have m1 : ((((((w.alloc (.cells #[.string name, .slice A 0 ca, .slice B 0 cb, .slice Cl lc cl, .int .i64 g.r, .int .i64 g.z, .int .i64 g.nr, .int .i64 g.nz, .int .i64 g.step, .slice D ld cd] 29)).alloc (.cells #[.slice A1 na qa, .slice B1 nb qb, .slice C len cap] 32)).alloc (.cells #[.int .i64 p0, .int .i64 p1] 76)).alloc (.cells #[.int .i64 0] 3)).alloc (.cells #[.string name, .slice A 0 ca, .slice B 0 cb, .slice Cl lc cl, .int .i64 g.r, .int .i64 g.z, .int .i64 g.nr, .int .i64 g.nz, .int .i64 g.step, .slice D ld cd] 29)).alloc (.cells #[.slice A1 na qa, .slice B1 nb qb, .slice C len cap] 32)).cell? ⟨w.heap.size + 1 + 1 + 1 + 1, 1, none⟩ = some (.slice A 0 ca) := by go_simp
 have m2 : ((((((w.alloc (.cells #[.string name, .slice A 0 ca, .slice B 0 cb, .slice Cl lc cl, .int .i64 g.r, .int .i64 g.z, .int .i64 g.nr, .int .i64 g.nz, .int .i64 g.step, .slice D ld cd] 29)).alloc (.cells #[.slice A1 na qa, .slice B1 nb qb, .slice C len cap] 32)).alloc (.cells #[.int .i64 p0, .int .i64 p1] 76)).alloc (.cells #[.int .i64 0] 3)).alloc (.cells #[.string name, .slice A 0 ca, .slice B 0 cb, .slice Cl lc cl, .int .i64 g.r, .int .i64 g.z, .int .i64 g.nr, .int .i64 g.nz, .int .i64 g.step, .slice D ld cd] 29)).alloc (.cells #[.slice A1 na qa, .slice B1 nb qb, .slice C len cap] 32)).cell? ⟨w.heap.size + 1 + 1 + 1 + 1, 2, none⟩ = some (.slice B 0 cb) := by go_simp
 have m4 : ((((((w.alloc (.cells #[.string name, .slice A 0 ca, .slice B 0 cb, .slice Cl lc cl, .int .i64 g.r, .int .i64 g.z, .int .i64 g.nr, .int .i64 g.nz, .int .i64 g.step, .slice D ld cd] 29)).alloc (.cells #[.slice A1 na qa, .slice B1 nb qb, .slice C len cap] 32)).alloc (.cells #[.int .i64 p0, .int .i64 p1] 76)).alloc (.cells #[.int .i64 0] 3)).alloc (.cells #[.string name, .slice A 0 ca, .slice B 0 cb, .slice Cl lc cl, .int .i64 g.r, .int .i64 g.z, .int .i64 g.nr, .int .i64 g.nz, .int .i64 g.step, .slice D ld cd] 29)).alloc (.cells #[.slice A1 na qa, .slice B1 nb qb, .slice C len cap] 32)).cell? ⟨w.heap.size + 1 + 1 + 1 + 1, 4, none⟩ = some (.int .i64 g.r) := by go_simp
 have m5 : ((((((w.alloc (.cells #[.string name, .slice A 0 ca, .slice B 0 cb, .slice Cl lc cl, .int .i64 g.r, .int .i64 g.z, .int .i64 g.nr, .int .i64 g.nz, .int .i64 g.step, .slice D ld cd] 29)).alloc (.cells #[.slice A1 na qa, .slice B1 nb qb, .slice C len cap] 32)).alloc (.cells #[.int .i64 p0, .int .i64 p1] 76)).alloc (.cells #[.int .i64 0] 3)).alloc (.cells #[.string name, .slice A 0 ca, .slice B 0 cb, .slice Cl lc cl, .int .i64 g.r, .int .i64 g.z, .int .i64 g.nr, .int .i64 g.nz, .int .i64 g.step, .slice D ld cd] 29)).alloc (.cells #[.slice A1 na qa, .slice B1 nb qb, .slice C len cap] 32)).cell? ⟨w.heap.size + 1 + 1 + 1 + 1, 5, none⟩ = some (.int .i64 g.z) := by go_simp
 have m6 : ((((((w.alloc (.cells #[.string name, .slice A 0 ca, .slice B 0 cb, .slice Cl lc cl, .int .i64 g.r, .int .i64 g.z, .int .i64 g.nr, .int .i64 g.nz, .int .i64 g.step, .slice D ld cd] 29)).alloc (.cells #[.slice A1 na qa, .slice B1 nb qb, .slice C len cap] 32)).alloc (.cells #[.int .i64 p0, .int .i64 p1] 76)).alloc (.cells #[.int .i64 0] 3)).alloc (.cells #[.string name, .slice A 0 ca, .slice B 0 cb, .slice Cl lc cl, .int .i64 g.r, .int .i64 g.z, .int .i64 g.nr, .int .i64 g.nz, .int .i64 g.step, .slice D ld cd] 29)).alloc (.cells #[.slice A1 na qa, .slice B1 nb qb, .slice C len cap] 32)).cell? ⟨w.heap.size + 1 + 1 + 1 + 1, 6, none⟩ = some (.int .i64 g.nr) := by go_simp
 have m7 : ((((((w.alloc (.cells #[.string name, .slice A 0 ca, .slice B 0 cb, .slice Cl lc cl, .int .i64 g.r, .int .i64 g.z, .int .i64 g.nr, .int .i64 g.nz, .int .i64 g.step, .slice D ld cd] 29)).alloc (.cells #[.slice A1 na qa, .slice B1 nb qb, .slice C len cap] 32)).alloc (.cells #[.int .i64 p0, .int .i64 p1] 76)).alloc (.cells #[.int .i64 0] 3)).alloc (.cells #[.string name, .slice A 0 ca, .slice B 0 cb, .slice Cl lc cl, .int .i64 g.r, .int .i64 g.z, .int .i64 g.nr, .int .i64 g.nz, .int .i64 g.step, .slice D ld cd] 29)).alloc (.cells #[.slice A1 na qa, .slice B1 nb qb, .slice C len cap] 32)).cell? ⟨w.heap.size + 1 + 1 + 1 + 1, 7, none⟩ = some (.int .i64 g.nz) := by go_simp
 have m8 : ((((((w.alloc (.cells #[.string name, .slice A 0 ca, .slice B 0 cb, .slice Cl lc cl, .int .i64 g.r, .int .i64 g.z, .int .i64 g.nr, .int .i64 g.nz, .int .i64 g.step, .slice D ld cd] 29)).alloc (.cells #[.slice A1 na qa, .slice B1 nb qb, .slice C len cap] 32)).alloc (.cells #[.int .i64 p0, .int .i64 p1] 76)).alloc (.cells #[.int .i64 0] 3)).alloc (.cells #[.string name, .slice A 0 ca, .slice B 0 cb, .slice Cl lc cl, .int .i64 g.r, .int .i64 g.z, .int .i64 g.nr, .int .i64 g.nz, .int .i64 g.step, .slice D ld cd] 29)).alloc (.cells #[.slice A1 na qa, .slice B1 nb qb, .slice C len cap] 32)).cell? ⟨w.heap.size + 1 + 1 + 1 + 1, 8, none⟩ = some (.int .i64 g.step) := by go_simp
 have k2 : ((((((w.alloc (.cells #[.string name, .slice A 0 ca, .slice B 0 cb, .slice Cl lc cl, .int .i64 g.r, .int .i64 g.z, .int .i64 g.nr, .int .i64 g.nz, .int .i64 g.step, .slice D ld cd] 29)).alloc (.cells #[.slice A1 na qa, .slice B1 nb qb, .slice C len cap] 32)).alloc (.cells #[.int .i64 p0, .int .i64 p1] 76)).alloc (.cells #[.int .i64 0] 3)).alloc (.cells #[.string name, .slice A 0 ca, .slice B 0 cb, .slice Cl lc cl, .int .i64 g.r, .int .i64 g.z, .int .i64 g.nr, .int .i64 g.nz, .int .i64 g.step, .slice D ld cd] 29)).alloc (.cells #[.slice A1 na qa, .slice B1 nb qb, .slice C len cap] 32)).cell? ⟨w.heap.size + 1 + 1 + 1 + 1 + 1, 2, none⟩ = some (.slice C len cap) := by go_simp
 obtain ⟨W0, hW0⟩ : ∃ W0, ((((((w.alloc (.cells #[.string name, .slice A 0 ca, .slice B 0 cb, .slice Cl lc cl, .int .i64 g.r, .int .i64 g.z, .int .i64 g.nr, .int .i64 g.nz, .int .i64 g.step, .slice D ld cd] 29)).alloc (.cells #[.slice A1 na qa, .slice B1 nb qb, .slice C len cap] 32)).alloc (.cells #[.int .i64 p0, .int .i64 p1] 76)).alloc (.cells #[.int .i64 0] 3)).alloc (.cells #[.string name, .slice A 0 ca, .slice B 0 cb, .slice Cl lc cl, .int .i64 g.r, .int .i64 g.z, .int .i64 g.nr, .int .i64 g.nz, .int .i64 g.step, .slice D ld cd] 29)).alloc (.cells #[.slice A1 na qa, .slice B1 nb qb, .slice C len cap] 32)) = W0 := ⟨_, rfl⟩
 rw [hW0] at hB0 hsz s0 sf q0 q1 m1 m2 m4 m5 m6 m7 m8 k2 ⊢
 clear hW0
 have hC : 0 < len → ∃ b o : Nat, C = some ⟨b, o, none⟩ ∧ b < w.heap.size ∧ ∀ j x, zs[j]? = some x → w.cell? ⟨b, o + j, none⟩ = some (.int .i64 x) := fun h0 => by
  obtain ⟨b, o, e, h1, h2⟩ := hI.2 h0
  exact ⟨b, o, e, h1, fun j x hx => by have := h2 j x hx 0 _ rfl; simpa using this⟩
 have hseq : SeqStopsK Fence.wide 7 Tryz.prog 156 #[.pointer (some ⟨w.heap.size + 1 + 1 + 1 + 1, 0, none⟩), .pointer (some ⟨w.heap.size + 1 + 1 + 1 + 1 + 1, 0, none⟩)] srcEnc (KpF w.heap.size (w.heap.size + 1 + 1 + 1 + 1) (w.heap.size + 1 + 1 + 1 + 1 + 1)) (fun ys => ys = cellSrc g zs len) (fun pre => ∃ k, k ≤ len ∧ pre = cellSrc g zs k) len W0 := fun l J Jx W hW hJa _ hY h0 =>
  sources1_bare 7 (by omega) l (w.heap.size + 1 + 1 + 1 + 1) (w.heap.size + 1 + 1 + 1 + 1 + 1) w.heap.size len cap ca cb A B C g hg zs hl J Jx (fun pre X Y hj hb => hJa pre X Y none hj (grown_of_below hb) (fun r e => by cases e)) hY W hI.1
   (fun h0 => by obtain ⟨b, o, e, h1, h2⟩ := hC h0; exact ⟨b, o, e, h1, by have := hW.size; omega, fun j x hx => ((hB0.trans (hW.mono (by omega))).cell (p := ⟨b, _, none⟩) h1).trans (h2 j x hx)⟩)
   (by have := hW.size; omega) (by have := hW.size; omega) (by have := hW.size; omega)
   ((hW.cell (p := ⟨_, _, none⟩) (by dsimp only; omega)).trans m1) ((hW.cell (p := ⟨_, _, none⟩) (by dsimp only; omega)).trans m2) ((hW.cell (p := ⟨_, _, none⟩) (by dsimp only; omega)).trans m4) ((hW.cell (p := ⟨_, _, none⟩) (by dsimp only; omega)).trans m5) ((hW.cell (p := ⟨_, _, none⟩) (by dsimp only; omega)).trans m6) ((hW.cell (p := ⟨_, _, none⟩) (by dsimp only; omega)).trans m7) ((hW.cell (p := ⟨_, _, none⟩) (by dsimp only; omega)).trans m8)
   ((hW.cell (p := ⟨_, _, none⟩) (by dsimp only; omega)).trans k2) h0
 refine wpIn_rangeFunc_ownH rfl (by omega) (gf := 156) (lb := #[.pointer (some ⟨w.heap.size + 1 + 1 + 1 + 1, 0, none⟩), .pointer (some ⟨w.heap.size + 1 + 1 + 1 + 1 + 1, 0, none⟩)]) rfl trivial (enters_of Tryz.func156 (by kernel_rfl) rfl)
  hseq KpF.t (KpF.b (by omega) (by omega) (by omega)) (Below.refl _ _) (fun _ => rfl)
  (fun pre W => ((W.cell? ⟨w.heap.size + 1 + 1 + 1, 0, none⟩ = some (.int .i64 (fluxW (p0, p1) 0 pre)) ∧ W.frozen? ⟨w.heap.size + 1 + 1 + 1, 0, none⟩ = false) ∧ (W.cell? ⟨w.heap.size + 1 + 1, 0, none⟩ = some (.int .i64 p0) ∧ W.cell? ⟨w.heap.size + 1 + 1, 1, none⟩ = some (.int .i64 p1))) ∧ (Below w.heap.size w W ∧ W0.heap.size ≤ W.heap.size))
  (fun _ _ _ => False)
  (OwnFrom.and (OwnFrom.and (Own.from (fun s X Y row hs hg hr => ⟨cell_kept hs.1 hg hr, (frozen_kept hs.1 hg hr).trans hs.2⟩) _) (Own.from (fun s X Y row hs hg hr => ⟨cell_kept hs.1 hg hr, cell_kept hs.2 hg hr⟩) _)) (OwnFrom.and (ownFrom_below (Nat.le_refl _) (by omega)) (fun _ _ _ _ hs hg _ => Nat.le_trans hs hg.size)))
  (fun _ _ _ _ _ hs _ _ => hs)
  ⟨⟨⟨s0, sf⟩, q0, q1⟩, hB0, Nat.le_refl _⟩
  (fun x a' W => ∃ Bx, W0.heap.size ≤ Bx ∧ Bx < W.heap.size ∧ (W.cell? ⟨Bx, 0, none⟩ = some (.int .i64 x.1.1) ∧ W.cell? ⟨Bx, 1, none⟩ = some (.int .i64 x.1.2)) ∧ a' = { tmps := #[.agg #[.string name, .slice A 0 ca, .slice B 0 cb, .slice Cl lc cl, .int .i64 g.r, .int .i64 g.z, .int .i64 g.nr, .int .i64 g.nz, .int .i64 g.step, .slice D ld cd], .agg #[.slice A1 na qa, .slice B1 nb qb, .slice C len cap], .agg #[.int .i64 p0, .int .i64 p1], .pointer (some ⟨w.heap.size, 0, none⟩), .pointer (some ⟨w.heap.size + 1, 0, none⟩), .pointer (some ⟨w.heap.size + 1 + 1, 0, none⟩), .int .i64 0, .pointer (some ⟨w.heap.size + 1 + 1 + 1, 0, none⟩), .pointer (some ⟨Bx, 0, none⟩), .int .i64 x.2, .agg #[.string name, .slice A 0 ca, .slice B 0 cb, .slice Cl lc cl, .int .i64 g.r, .int .i64 g.z, .int .i64 g.nr, .int .i64 g.nz, .int .i64 g.step, .slice D ld cd], .agg #[.slice A1 na qa, .slice B1 nb qb, .slice C len cap], .func (.func 156) #[] #[.pointer (some ⟨w.heap.size + 1 + 1 + 1 + 1, 0, none⟩), .pointer (some ⟨w.heap.size + 1 + 1 + 1 + 1 + 1, 0, none⟩)], .agg #[.int .i64 x.1.1, .int .i64 x.1.2], .int .i64 x.2, undef, undef, undef, undef, undef, undef, undef, undef], defers := [] })
  (fun x a' _ X Y row hs hg hr => by obtain ⟨Bx, h1, h2, h3, h4⟩ := hs; exact ⟨Bx, h1, Nat.lt_of_lt_of_le h2 hg.size, ⟨cell_kept h3.1 hg (fun r e => (hr r e).2), cell_kept h3.2 hg (fun r e => (hr r e).2)⟩, h4⟩)
  ?assign ?body ?done ?stop
 case assign =>
  rintro l pre x W K hI hK
  have hW := hI.2.2
  gi_wp2
  refine hK _ _ ((KeepsOthers.alloc _ _).from _) (KpF.of_below (by omega) (by omega) (by omega) ((Below.refl _ W).alloc (Nat.le_refl _) _)) ⟨⟨⟨?_, ?_⟩, ?_, ?_⟩, hI.2.1.alloc hI.2.1.size _, by simp; omega⟩ ⟨W.heap.size, hW, by simp, ⟨by go_simp, by go_simp⟩, rfl⟩
  ·rw [World.cell?_alloc_old _ _ _ (by dsimp only; omega)]; exact hI.1.1.1
  ·rw [World.frozen?_alloc_old _ _ _ (by dsimp only; omega)]; exact hI.1.1.2
  ·rw [World.cell?_alloc_old _ _ _ (by dsimp only; omega)]; exact hI.1.2.1
  ·rw [World.cell?_alloc_old _ _ _ (by dsimp only; omega)]; exact hI.1.2.2
 case body =>
  rintro l pre x a' W hl' ⟨r, hr⟩ ⟨⟨⟨c0, f0⟩, c1, c2⟩, hB, hW⟩ ⟨Bx, hBx, hBx2, ⟨b0, b1⟩, rfl⟩ hlt
  have hd : 1 ≤ 8 - 1 - 1 := by omega
  have hmx : Tryz.prog.follows .mixedOrders = true := by kernel_rfl
  obtain ⟨⟨xr, xz⟩, xc⟩ := x
  have HX := Lib.hid (HP.out pre ((xr, xz), xc))
  dsimp only at *
  generalize fluxW (p0, p1) 0 pre = S at *
  gi_wp2
  gi_region_with_o (gi_at_call 123; refine (CallsIn.inRound l (callsIn_wide.2 (influence_any _ _ _ _ _))).mono ?_; rintro e w1 ⟨rfl, hb⟩; have d0 := (hb.cell (p := ⟨w.heap.size + 1 + 1 + 1, 0, none⟩) (by (show _ < W.heap.size; dsimp only; omega))).trans (by exact c0); have g0 := (hb.frozen (p := ⟨w.heap.size + 1 + 1 + 1, 0, none⟩) (by (show _ < W.heap.size; dsimp only; omega))).trans (by exact f0); have d1 := (hb.cell (p := ⟨w.heap.size + 1 + 1, 0, none⟩) (by (show _ < W.heap.size; dsimp only; omega))).trans (by exact c1); have d2 := (hb.cell (p := ⟨w.heap.size + 1 + 1, 1, none⟩) (by (show _ < W.heap.size; dsimp only; omega))).trans (by exact c2); have hs1 := hb.size)
  all_goals gi_wp2
  all_goals (try go_bits)
  all_goals have hb' : Below W.heap.size W w1 := ((Below.refl _ W).drew).trans hb
  all_goals have hs2 := hb'.size
  all_goals exact ⟨(KeepsFrom.of_grownBy (grown_of_below hb') (fun j e => by cases e)).trans ((KeepsOthers.setCell _ _ _).from _), (KpF.of_below (by omega) (by omega) (by omega) hb').t ⟨(Below.refl _ _).setCell (p := ⟨w.heap.size + 1 + 1 + 1, 0, none⟩) (by dsimp only; omega) _, fun b o hbb => World.cell?_setCell_other _ _ _ _ (by intro e; injection e with e1 e2; omega)⟩, ⟨⟨by rw [HX.out]; exact World.cell?_setCell_same' _ _ _ (by rw [d0]; rfl), by rw [World.frozen?_setCell]; exact g0⟩, by rw [World.cell?_setCell_other _ _ _ _ (by intro e; injection e with e1 e2; omega)]; exact d1, by rw [World.cell?_setCell_other _ _ _ _ (by intro e; injection e with e1 e2; omega)]; exact d2⟩, (hB.trans (hb'.mono hB.size)).setCell (p := ⟨w.heap.size + 1 + 1 + 1, 0, none⟩) (by dsimp only; omega) _, by rw [World.size_setCell]; omega⟩
 case done =>
  rintro E ys W hD rfl ⟨⟨⟨c0, _⟩, _⟩, hB, _⟩ hK
  gi_wp2
  refine ⟨by simp, .inl ⟨_, _, rfl, run_takeDeferred hK, ?_⟩⟩
  exact ⟨_, results_tmp rfl _ _ _, rfl, hB.trans (belowK_b (w := w) (Nat.le_refl _) W E _ _ (by omega) hK rfl rfl)⟩
 case stop =>
  rintro E c pre W _ _ h _
  exact h.elim
end
section
open Go.RowKit
theorem rng_zero {b : Bool} (h : rng b = 0) : b = true := by unfold rng at h; split at h <;> simp_all
theorem orL_zero {x : Int} {r : List Int} (h : orL (x :: r) = 0) : x = 0 ∧ orL r = 0 := by
 have : (if x = 0 then orL r else x) = 0 := h
 split at this
 ·exact ⟨‹_›, this⟩
 ·exact absurd this ‹_›
theorem grid_of {M : MachD} (h : checkC M = 0) : gridC M.grid = 0 := (orL_zero (orL_zero (orL_zero (orL_zero (orL_zero h).2).2).2).2).1
theorem fine_grid {g : GridD} (h : gridC g = 0) : g.Fine := by
 unfold gridC at h
 split at h
 ·split at h
  ·exact fine_of ‹_› ‹_›
  ·cases h
 ·cases h
theorem cells_fine {g : GridD} (h : g.Fine) : 1 ≤ g.nr * g.nz ∧ g.nr * g.nz ≤ 64 := by
 have hp := mul_small (x := 8) (y := 8) (show 0 ≤ g.nr by have := h.n0; omega) h.n1 (show 0 ≤ g.nz by have := h.k0; omega) h.k1
 have h3 := Int.mul_le_mul h.n0 h.k0 (by omega) (show 0 ≤ g.nr by have := h.n0; omega)
 omega
theorem int_eq (a b : Nat) : (((a : Int) == b) = decide (a = b)) := by
 by_cases h : a = b
 ·subst h; simp
 ·rw [decide_eq_false h, beq_eq_false_iff_ne]; omega
set_option maxRecDepth 100000 in
theorem validCurrents_any (R : MachR) (M : MachD) (Q : CurR) (C : CurD) (w : World) (hM : IsM w R M) (hC : IsC w Q C) : Calls Tryz.prog 40 #[(.agg (machCells R M)), Q.v] w (Ret (.bool (validC M C)) w) := by
 have la := hM.coils.1
 have lb := hM.shells.1
 have na := hC.coils.1
 have nb := hC.shells.1
 have nc := hC.plasma.1
 refine calls_ax (vs := [(.agg (machCells R M)), Q.v]) Tryz.func40 rfl rfl ?_
 refine ac_seq (ac_region ?_)
 refine al_new (fun b => .pointer (some ⟨b, 0, none⟩)) (r_box rfl rfl) rfl rfl rfl ?_
 intro b1
 refine al_new (fun b => .pointer (some ⟨b, 0, none⟩)) (r_box rfl rfl) rfl rfl rfl ?_
 intro b2
 refine al_p (q_assign rfl) (al_end (aq_then ?_))
 refine ac_seq (ac_draw 50 (by kernel_rfl) (by kernel_rfl) ?_)
 refine ah_t 0 (fun w9 hs => hs) rfl rfl (by kernel_rfl) (q_loadAll (i := 1) rfl rfl Tryz.isAgg29 Tryz.sizeOf29 rfl) (ah_one 1 rfl (by kernel_rfl) (fun hok1 hcl1 => ?_))
 refine al_call Tryz.call71 (.cons rfl .nil) rfl rfl (fun w1 hs1 => ?_)
 refine (check_any R M _ (hM.below hs1.below)).mono ?_
 rintro e u1 ⟨rfl, hb_1⟩
 refine ⟨_, rfl, hb_1, ?_⟩
 clear hs1
 refine al_end (ah_back hok1 hcl1 (fun w9 hs => (hs.fewer 1 rfl)) ?_)
 refine ah_t 2 (fun w9 hs => (hs.fewer 1 rfl)) rfl rfl (by kernel_rfl) (q_eql rfl rfl) (ah_t 3 (fun w9 hs => (hs.fewer 1 rfl)) rfl rfl (by kernel_rfl) (q_move rfl) ?_)
 refine ah_split 8 rfl (fun hb1 => ?_) (fun hb1 => ?_)
 ·have q1 : checkC M = 0 := of_decide_eq_true hb1
  have hcf := cells_fine (fine_grid (grid_of q1))
  refine ah_t 4 (fun w9 hs => (hs.fewer 1 rfl)) rfl rfl (by kernel_rfl) (q_fieldAddr 0 rfl Tryz.runUnderlying32 rfl Tryz.sizeOf30 (by decide) rfl) (ah_t 5 (fun w9 hs => (hs.fewer 1 rfl)) rfl rfl (by kernel_rfl) (q_load (i := 0) rfl rfl rfl Tryz.isAgg30) (ah_t 6 (fun w9 hs => (hs.fewer 1 rfl)) rfl rfl (by kernel_rfl) (q_lenS rfl Tryz.runUnderlying30) ?_))
  refine ah_t 7 (fun w9 hs => (hs.fewer 1 rfl)) rfl rfl (by kernel_rfl) (q_fieldAddr 1 rfl Tryz.runUnderlying29 rfl Tryz.sizeOf22 (by decide) rfl) (ah_t 8 (fun w9 hs => (hs.fewer 1 rfl)) rfl rfl (by kernel_rfl) (q_load (i := 1) rfl rfl rfl Tryz.isAgg22) (ah_t 9 (fun w9 hs => (hs.fewer 1 rfl)) rfl rfl (by kernel_rfl) (q_lenS rfl Tryz.runUnderlying22) (ah_t 10 (fun w9 hs => (hs.fewer 1 rfl)) rfl rfl (by kernel_rfl) (q_eql rfl rfl) (ah_t 11 (fun w9 hs => (hs.fewer 1 rfl)) rfl rfl (by kernel_rfl) (q_pickT rfl rfl) ?_))))
  refine ah_t 12 (fun w9 hs => (hs.fewer 1 rfl)) rfl rfl (by kernel_rfl) (q_move rfl) ?_
  refine ah_split 17 rfl (fun hb2 => ?_) (fun hb2 => ?_)
  ·have q2 : Q.la = R.la := by have := of_decide_eq_true hb2; omega
   refine ah_t 13 (fun w9 hs => (hs.fewer 1 rfl)) rfl rfl (by kernel_rfl) (q_fieldAddr 0 rfl Tryz.runUnderlying32 rfl Tryz.sizeOf30 (by decide) rfl) (ah_t 14 (fun w9 hs => (hs.fewer 1 rfl)) rfl rfl (by kernel_rfl) (q_load (i := 0) rfl rfl rfl Tryz.isAgg30) (ah_one 15 rfl (by kernel_rfl) (fun hok2 hcl2 => ?_)))
   refine al_call Tryz.call72 (.cons rfl (.cons rfl (.cons rfl .nil))) rfl rfl (fun w2 hs2 => ?_)
   refine (allWithin_any Q.A Q.la Q.ca C.coils (-1000000) 1000000 _ (hC.coils.below hs2.below) hC.ka).mono ?_
   rintro e u2 ⟨rfl, hb_2⟩
   refine ⟨_, rfl, hb_2, ?_⟩
   clear hs2
   refine al_end (ah_back hok2 hcl2 (fun w9 hs => (hs.fewer 2 rfl)) ?_)
   refine ah_t 16 (fun w9 hs => (hs.fewer 2 rfl)) rfl rfl (by kernel_rfl) (q_pickT rfl rfl) (ah_t 17 (fun w9 hs => (hs.fewer 2 rfl)) rfl rfl (by kernel_rfl) (q_move rfl) ?_)
   refine ah_split 22 rfl (fun hb3 => ?_) (fun hb3 => ?_)
   ·have q3 := hb3
    refine ah_t 18 (fun w9 hs => (hs.fewer 2 rfl)) rfl rfl (by kernel_rfl) (q_fieldAddr 1 rfl Tryz.runUnderlying32 rfl Tryz.sizeOf30 (by decide) rfl) (ah_t 19 (fun w9 hs => (hs.fewer 2 rfl)) rfl rfl (by kernel_rfl) (q_load (i := 0) rfl rfl rfl Tryz.isAgg30) (ah_t 20 (fun w9 hs => (hs.fewer 2 rfl)) rfl rfl (by kernel_rfl) (q_lenS rfl Tryz.runUnderlying30) ?_))
    refine ah_t 21 (fun w9 hs => (hs.fewer 2 rfl)) rfl rfl (by kernel_rfl) (q_fieldAddr 2 rfl Tryz.runUnderlying29 rfl Tryz.sizeOf23 (by decide) rfl) (ah_t 22 (fun w9 hs => (hs.fewer 2 rfl)) rfl rfl (by kernel_rfl) (q_load (i := 1) rfl rfl rfl Tryz.isAgg23) (ah_t 23 (fun w9 hs => (hs.fewer 2 rfl)) rfl rfl (by kernel_rfl) (q_lenS rfl Tryz.runUnderlying23) (ah_t 24 (fun w9 hs => (hs.fewer 2 rfl)) rfl rfl (by kernel_rfl) (q_eql rfl rfl) (ah_t 25 (fun w9 hs => (hs.fewer 2 rfl)) rfl rfl (by kernel_rfl) (q_pickT rfl rfl) ?_))))
    refine ah_t 26 (fun w9 hs => (hs.fewer 2 rfl)) rfl rfl (by kernel_rfl) (q_move rfl) ?_
    refine ah_split 31 rfl (fun hb4 => ?_) (fun hb4 => ?_)
    ·have q4 : Q.lb = R.lb := by have := of_decide_eq_true hb4; omega
     refine ah_t 27 (fun w9 hs => (hs.fewer 2 rfl)) rfl rfl (by kernel_rfl) (q_fieldAddr 1 rfl Tryz.runUnderlying32 rfl Tryz.sizeOf30 (by decide) rfl) (ah_t 28 (fun w9 hs => (hs.fewer 2 rfl)) rfl rfl (by kernel_rfl) (q_load (i := 0) rfl rfl rfl Tryz.isAgg30) (ah_one 29 rfl (by kernel_rfl) (fun hok3 hcl3 => ?_)))
     refine al_call Tryz.call72 (.cons rfl (.cons rfl (.cons rfl .nil))) rfl rfl (fun w3 hs3 => ?_)
     refine (allWithin_any Q.B Q.lb Q.cb C.shells (-1000000) 1000000 _ (hC.shells.below hs3.below) hC.kb).mono ?_
     rintro e u3 ⟨rfl, hb_3⟩
     refine ⟨_, rfl, hb_3, ?_⟩
     clear hs3
     refine al_end (ah_back hok3 hcl3 (fun w9 hs => (hs.fewer 3 rfl)) ?_)
     refine ah_t 30 (fun w9 hs => (hs.fewer 3 rfl)) rfl rfl (by kernel_rfl) (q_pickT rfl rfl) (ah_t 31 (fun w9 hs => (hs.fewer 3 rfl)) rfl rfl (by kernel_rfl) (q_move rfl) ?_)
     refine ah_split 36 rfl (fun hb5 => ?_) (fun hb5 => ?_)
     ·have q5 := hb5
      refine ah_t 32 (fun w9 hs => (hs.fewer 3 rfl)) rfl rfl (by kernel_rfl) (q_fieldAddr 2 rfl Tryz.runUnderlying32 rfl Tryz.sizeOf30 (by decide) rfl) (ah_t 33 (fun w9 hs => (hs.fewer 3 rfl)) rfl rfl (by kernel_rfl) (q_load (i := 0) rfl rfl rfl Tryz.isAgg30) (ah_t 34 (fun w9 hs => (hs.fewer 3 rfl)) rfl rfl (by kernel_rfl) (q_lenS rfl Tryz.runUnderlying30) ?_))
      refine ah_t 35 (fun w9 hs => (hs.fewer 3 rfl)) rfl rfl (by kernel_rfl) (q_fieldAddr 4 rfl Tryz.runUnderlying29 rfl Tryz.sizeOf26 (by decide) rfl) (ah_t 36 (fun w9 hs => (hs.fewer 3 rfl)) rfl rfl (by kernel_rfl) (q_loadSub (i := 1) rfl rfl Tryz.isAgg26 Tryz.sizeOf26 .k4 .k5) (ah_one 37 rfl (by kernel_rfl) (fun hok4 hcl4 => ?_)))
      refine al_call Tryz.call73 (.cons rfl .nil) rfl rfl (fun w4 hs4 => ?_)
      refine (cells_any M.grid _ (by omega) (by omega)).mono ?_
      rintro e u4 ⟨rfl, hb_4⟩
      refine ⟨_, rfl, hb_4, ?_⟩
      clear hs4
      refine al_end (ah_back hok4 hcl4 (fun w9 hs => (hs.fewer 4 rfl)) ?_)
      refine ah_t 38 (fun w9 hs => (hs.fewer 4 rfl)) rfl rfl (by kernel_rfl) (q_eql rfl rfl) (ah_t 39 (fun w9 hs => (hs.fewer 4 rfl)) rfl rfl (by kernel_rfl) (q_pickT rfl rfl) (ah_t 40 (fun w9 hs => (hs.fewer 4 rfl)) rfl rfl (by kernel_rfl) (q_move rfl) ?_))
      refine ah_split 45 rfl (fun hb6 => ?_) (fun hb6 => ?_)
      ·have q6 : (Q.lc : Int) = M.grid.nr * M.grid.nz := of_decide_eq_true hb6
       refine ah_t 41 (fun w9 hs => (hs.fewer 4 rfl)) rfl rfl (by kernel_rfl) (q_fieldAddr 2 rfl Tryz.runUnderlying32 rfl Tryz.sizeOf30 (by decide) rfl) (ah_t 42 (fun w9 hs => (hs.fewer 4 rfl)) rfl rfl (by kernel_rfl) (q_load (i := 0) rfl rfl rfl Tryz.isAgg30) (ah_one 43 rfl (by kernel_rfl) (fun hok5 hcl5 => ?_)))
       refine al_call Tryz.call72 (.cons rfl (.cons rfl (.cons rfl .nil))) rfl rfl (fun w5 hs5 => ?_)
       refine (allWithin_any Q.C Q.lc Q.cc C.plasma 0 1000000 _ (hC.plasma.below hs5.below) hC.kc).mono ?_
       rintro e u5 ⟨rfl, hb_5⟩
       refine ⟨_, rfl, hb_5, ?_⟩
       clear hs5
       refine al_end (ah_back hok5 hcl5 (fun w9 hs => (hs.fewer 5 rfl)) ?_)
       refine ah_t 44 (fun w9 hs => (hs.fewer 5 rfl)) rfl rfl (by kernel_rfl) (q_pickT rfl rfl) (ah_t 45 (fun w9 hs => (hs.fewer 5 rfl)) rfl rfl (by kernel_rfl) (q_move rfl) ?_)
       refine ah_split 50 rfl (fun hb7 => ?_) (fun hb7 => ?_)
       ·have q7 := hb7
        refine ah_t 46 (fun w9 hs => (hs.fewer 5 rfl)) rfl rfl (by kernel_rfl) (q_loadAll (i := 0) rfl rfl Tryz.isAgg32 Tryz.sizeOf32 rfl) (ah_one 47 rfl (by kernel_rfl) (fun hok6 hcl6 => ?_))
        refine al_call Tryz.call74 (.cons rfl .nil) rfl rfl (fun w6 hs6 => ?_)
        refine (total_any Q.A Q.B Q.C Q.la Q.ca Q.lb Q.cb Q.lc Q.cc C.plasma _ (hC.plasma.below hs6.below) hC.kc).mono ?_
        rintro e u6 ⟨rfl, hb_6⟩
        refine ⟨_, rfl, hb_6, ?_⟩
        clear hs6
        refine al_end (ah_back hok6 hcl6 (fun w9 hs => (hs.fewer 6 rfl)) ?_)
        refine ah_t 48 (fun w9 hs => (hs.fewer 6 rfl)) rfl rfl (by kernel_rfl) (q_leq rfl rfl) (ah_t 49 (fun w9 hs => (hs.fewer 6 rfl)) rfl rfl (by kernel_rfl) (q_pickT rfl rfl) (ah_one 50 rfl (by kernel_rfl) (fun hok7 hcl7 => ?_)))
        refine al_p (q_assign rfl) (al_end (ah_last (by kernel_rfl) ?_))
        refine aq_then (ac_ret (ret1 Tryz.results40 rfl (fun w9 hs => ?_)))
        refine ⟨?_, hs.below⟩; simp [validC, na, la, nb, lb, nc, q1, q2, q3, q4, q5, q6, q7]
       ·have q7 := hb7
        refine ah_s 46 (fun w9 hs => (hs.fewer 5 rfl)) rfl rfl (by kernel_rfl) (ah_s 47 (fun w9 hs => (hs.fewer 5 rfl)) rfl rfl (by kernel_rfl) (ah_s 48 (fun w9 hs => (hs.fewer 5 rfl)) rfl rfl (by kernel_rfl) (ah_t 49 (fun w9 hs => (hs.fewer 5 rfl)) rfl rfl (by kernel_rfl) (q_pickF rfl rfl) (ah_one 50 rfl (by kernel_rfl) (fun hok8 hcl8 => ?_)))))
        refine al_p (q_assign rfl) (al_end (ah_last (by kernel_rfl) ?_))
        refine aq_then (ac_ret (ret1 Tryz.results40 rfl (fun w9 hs => ?_)))
        refine ⟨?_, hs.below⟩; simp [validC, na, la, nb, lb, nc, q1, q2, q3, q4, q5, q6, q7]
      ·have q6 : ¬ (Q.lc : Int) = M.grid.nr * M.grid.nz := of_decide_eq_false hb6
       refine ah_s 41 (fun w9 hs => (hs.fewer 4 rfl)) rfl rfl (by kernel_rfl) (ah_s 42 (fun w9 hs => (hs.fewer 4 rfl)) rfl rfl (by kernel_rfl) (ah_s 43 (fun w9 hs => (hs.fewer 4 rfl)) rfl rfl (by kernel_rfl) (ah_t 44 (fun w9 hs => (hs.fewer 4 rfl)) rfl rfl (by kernel_rfl) (q_pickF rfl rfl) (ah_t 45 (fun w9 hs => (hs.fewer 4 rfl)) rfl rfl (by kernel_rfl) (q_move rfl) ?_))))
       refine ah_s 46 (fun w9 hs => (hs.fewer 4 rfl)) rfl rfl (by kernel_rfl) (ah_s 47 (fun w9 hs => (hs.fewer 4 rfl)) rfl rfl (by kernel_rfl) (ah_s 48 (fun w9 hs => (hs.fewer 4 rfl)) rfl rfl (by kernel_rfl) (ah_t 49 (fun w9 hs => (hs.fewer 4 rfl)) rfl rfl (by kernel_rfl) (q_pickF rfl rfl) (ah_one 50 rfl (by kernel_rfl) (fun hok9 hcl9 => ?_)))))
       refine al_p (q_assign rfl) (al_end (ah_last (by kernel_rfl) ?_))
       refine aq_then (ac_ret (ret1 Tryz.results40 rfl (fun w9 hs => ?_)))
       refine ⟨?_, hs.below⟩; simp [validC, na, la, nb, lb, nc, q1, q2, q3, q4, q5, q6]
     ·have q5 := hb5
      refine ah_s 32 (fun w9 hs => (hs.fewer 3 rfl)) rfl rfl (by kernel_rfl) (ah_s 33 (fun w9 hs => (hs.fewer 3 rfl)) rfl rfl (by kernel_rfl) (ah_s 34 (fun w9 hs => (hs.fewer 3 rfl)) rfl rfl (by kernel_rfl) (ah_s 35 (fun w9 hs => (hs.fewer 3 rfl)) rfl rfl (by kernel_rfl) (ah_s 36 (fun w9 hs => (hs.fewer 3 rfl)) rfl rfl (by kernel_rfl) ?_))))
      refine ah_s 37 (fun w9 hs => (hs.fewer 3 rfl)) rfl rfl (by kernel_rfl) (ah_s 38 (fun w9 hs => (hs.fewer 3 rfl)) rfl rfl (by kernel_rfl) (ah_t 39 (fun w9 hs => (hs.fewer 3 rfl)) rfl rfl (by kernel_rfl) (q_pickF rfl rfl) (ah_t 40 (fun w9 hs => (hs.fewer 3 rfl)) rfl rfl (by kernel_rfl) (q_move rfl) (ah_s 41 (fun w9 hs => (hs.fewer 3 rfl)) rfl rfl (by kernel_rfl) ?_))))
      refine ah_s 42 (fun w9 hs => (hs.fewer 3 rfl)) rfl rfl (by kernel_rfl) (ah_s 43 (fun w9 hs => (hs.fewer 3 rfl)) rfl rfl (by kernel_rfl) (ah_t 44 (fun w9 hs => (hs.fewer 3 rfl)) rfl rfl (by kernel_rfl) (q_pickF rfl rfl) (ah_t 45 (fun w9 hs => (hs.fewer 3 rfl)) rfl rfl (by kernel_rfl) (q_move rfl) (ah_s 46 (fun w9 hs => (hs.fewer 3 rfl)) rfl rfl (by kernel_rfl) ?_))))
      refine ah_s 47 (fun w9 hs => (hs.fewer 3 rfl)) rfl rfl (by kernel_rfl) (ah_s 48 (fun w9 hs => (hs.fewer 3 rfl)) rfl rfl (by kernel_rfl) (ah_t 49 (fun w9 hs => (hs.fewer 3 rfl)) rfl rfl (by kernel_rfl) (q_pickF rfl rfl) (ah_one 50 rfl (by kernel_rfl) (fun hok10 hcl10 => ?_))))
      refine al_p (q_assign rfl) (al_end (ah_last (by kernel_rfl) ?_))
      refine aq_then (ac_ret (ret1 Tryz.results40 rfl (fun w9 hs => ?_)))
      refine ⟨?_, hs.below⟩; simp [validC, na, la, nb, lb, nc, q1, q2, q3, q4, q5]
    ·have q4 : ¬ Q.lb = R.lb := by have := of_decide_eq_false hb4; omega
     refine ah_s 27 (fun w9 hs => (hs.fewer 2 rfl)) rfl rfl (by kernel_rfl) (ah_s 28 (fun w9 hs => (hs.fewer 2 rfl)) rfl rfl (by kernel_rfl) (ah_s 29 (fun w9 hs => (hs.fewer 2 rfl)) rfl rfl (by kernel_rfl) (ah_t 30 (fun w9 hs => (hs.fewer 2 rfl)) rfl rfl (by kernel_rfl) (q_pickF rfl rfl) (ah_t 31 (fun w9 hs => (hs.fewer 2 rfl)) rfl rfl (by kernel_rfl) (q_move rfl) ?_))))
     refine ah_s 32 (fun w9 hs => (hs.fewer 2 rfl)) rfl rfl (by kernel_rfl) (ah_s 33 (fun w9 hs => (hs.fewer 2 rfl)) rfl rfl (by kernel_rfl) (ah_s 34 (fun w9 hs => (hs.fewer 2 rfl)) rfl rfl (by kernel_rfl) (ah_s 35 (fun w9 hs => (hs.fewer 2 rfl)) rfl rfl (by kernel_rfl) (ah_s 36 (fun w9 hs => (hs.fewer 2 rfl)) rfl rfl (by kernel_rfl) ?_))))
     refine ah_s 37 (fun w9 hs => (hs.fewer 2 rfl)) rfl rfl (by kernel_rfl) (ah_s 38 (fun w9 hs => (hs.fewer 2 rfl)) rfl rfl (by kernel_rfl) (ah_t 39 (fun w9 hs => (hs.fewer 2 rfl)) rfl rfl (by kernel_rfl) (q_pickF rfl rfl) (ah_t 40 (fun w9 hs => (hs.fewer 2 rfl)) rfl rfl (by kernel_rfl) (q_move rfl) (ah_s 41 (fun w9 hs => (hs.fewer 2 rfl)) rfl rfl (by kernel_rfl) ?_))))
     refine ah_s 42 (fun w9 hs => (hs.fewer 2 rfl)) rfl rfl (by kernel_rfl) (ah_s 43 (fun w9 hs => (hs.fewer 2 rfl)) rfl rfl (by kernel_rfl) (ah_t 44 (fun w9 hs => (hs.fewer 2 rfl)) rfl rfl (by kernel_rfl) (q_pickF rfl rfl) (ah_t 45 (fun w9 hs => (hs.fewer 2 rfl)) rfl rfl (by kernel_rfl) (q_move rfl) (ah_s 46 (fun w9 hs => (hs.fewer 2 rfl)) rfl rfl (by kernel_rfl) ?_))))
     refine ah_s 47 (fun w9 hs => (hs.fewer 2 rfl)) rfl rfl (by kernel_rfl) (ah_s 48 (fun w9 hs => (hs.fewer 2 rfl)) rfl rfl (by kernel_rfl) (ah_t 49 (fun w9 hs => (hs.fewer 2 rfl)) rfl rfl (by kernel_rfl) (q_pickF rfl rfl) (ah_one 50 rfl (by kernel_rfl) (fun hok11 hcl11 => ?_))))
     refine al_p (q_assign rfl) (al_end (ah_last (by kernel_rfl) ?_))
     refine aq_then (aq_keepL [4] (.cons rfl .nil) ?_)
     refine aq_keepB (.drop (.drop .nil)) ?_
     refine ac_ret (ret1 Tryz.results40 rfl (fun w9 hs => ?_))
     refine ⟨?_, hs.below⟩; simp [validC, na, la, nb, lb, nc, q1, q2, q3, q4]
   ·have q3 := hb3
    refine ah_s 18 (fun w9 hs => (hs.fewer 2 rfl)) rfl rfl (by kernel_rfl) (ah_s 19 (fun w9 hs => (hs.fewer 2 rfl)) rfl rfl (by kernel_rfl) (ah_s 20 (fun w9 hs => (hs.fewer 2 rfl)) rfl rfl (by kernel_rfl) (ah_s 21 (fun w9 hs => (hs.fewer 2 rfl)) rfl rfl (by kernel_rfl) (ah_s 22 (fun w9 hs => (hs.fewer 2 rfl)) rfl rfl (by kernel_rfl) ?_))))
    refine ah_s 23 (fun w9 hs => (hs.fewer 2 rfl)) rfl rfl (by kernel_rfl) (ah_s 24 (fun w9 hs => (hs.fewer 2 rfl)) rfl rfl (by kernel_rfl) (ah_t 25 (fun w9 hs => (hs.fewer 2 rfl)) rfl rfl (by kernel_rfl) (q_pickF rfl rfl) (ah_t 26 (fun w9 hs => (hs.fewer 2 rfl)) rfl rfl (by kernel_rfl) (q_move rfl) (ah_s 27 (fun w9 hs => (hs.fewer 2 rfl)) rfl rfl (by kernel_rfl) ?_))))
    refine ah_s 28 (fun w9 hs => (hs.fewer 2 rfl)) rfl rfl (by kernel_rfl) (ah_s 29 (fun w9 hs => (hs.fewer 2 rfl)) rfl rfl (by kernel_rfl) (ah_t 30 (fun w9 hs => (hs.fewer 2 rfl)) rfl rfl (by kernel_rfl) (q_pickF rfl rfl) (ah_t 31 (fun w9 hs => (hs.fewer 2 rfl)) rfl rfl (by kernel_rfl) (q_move rfl) (ah_s 32 (fun w9 hs => (hs.fewer 2 rfl)) rfl rfl (by kernel_rfl) ?_))))
    refine ah_s 33 (fun w9 hs => (hs.fewer 2 rfl)) rfl rfl (by kernel_rfl) (ah_s 34 (fun w9 hs => (hs.fewer 2 rfl)) rfl rfl (by kernel_rfl) (ah_s 35 (fun w9 hs => (hs.fewer 2 rfl)) rfl rfl (by kernel_rfl) (ah_s 36 (fun w9 hs => (hs.fewer 2 rfl)) rfl rfl (by kernel_rfl) (ah_s 37 (fun w9 hs => (hs.fewer 2 rfl)) rfl rfl (by kernel_rfl) ?_))))
    refine ah_s 38 (fun w9 hs => (hs.fewer 2 rfl)) rfl rfl (by kernel_rfl) (ah_t 39 (fun w9 hs => (hs.fewer 2 rfl)) rfl rfl (by kernel_rfl) (q_pickF rfl rfl) (ah_t 40 (fun w9 hs => (hs.fewer 2 rfl)) rfl rfl (by kernel_rfl) (q_move rfl) (ah_s 41 (fun w9 hs => (hs.fewer 2 rfl)) rfl rfl (by kernel_rfl) (ah_s 42 (fun w9 hs => (hs.fewer 2 rfl)) rfl rfl (by kernel_rfl) ?_))))
    refine ah_s 43 (fun w9 hs => (hs.fewer 2 rfl)) rfl rfl (by kernel_rfl) (ah_t 44 (fun w9 hs => (hs.fewer 2 rfl)) rfl rfl (by kernel_rfl) (q_pickF rfl rfl) (ah_t 45 (fun w9 hs => (hs.fewer 2 rfl)) rfl rfl (by kernel_rfl) (q_move rfl) (ah_s 46 (fun w9 hs => (hs.fewer 2 rfl)) rfl rfl (by kernel_rfl) (ah_s 47 (fun w9 hs => (hs.fewer 2 rfl)) rfl rfl (by kernel_rfl) ?_))))
    refine ah_s 48 (fun w9 hs => (hs.fewer 2 rfl)) rfl rfl (by kernel_rfl) (ah_t 49 (fun w9 hs => (hs.fewer 2 rfl)) rfl rfl (by kernel_rfl) (q_pickF rfl rfl) (ah_one 50 rfl (by kernel_rfl) (fun hok12 hcl12 => ?_)))
    refine al_p (q_assign rfl) (al_end (ah_last (by kernel_rfl) ?_))
    refine aq_then (ac_ret (ret1 Tryz.results40 rfl (fun w9 hs => ?_)))
    refine ⟨?_, hs.below⟩; simp [validC, na, la, nb, lb, nc, q1, q2, q3]
  ·have q2 : ¬ Q.la = R.la := by have := of_decide_eq_false hb2; omega
   refine ah_s 13 (fun w9 hs => (hs.fewer 1 rfl)) rfl rfl (by kernel_rfl) (ah_s 14 (fun w9 hs => (hs.fewer 1 rfl)) rfl rfl (by kernel_rfl) (ah_s 15 (fun w9 hs => (hs.fewer 1 rfl)) rfl rfl (by kernel_rfl) (ah_t 16 (fun w9 hs => (hs.fewer 1 rfl)) rfl rfl (by kernel_rfl) (q_pickF rfl rfl) (ah_t 17 (fun w9 hs => (hs.fewer 1 rfl)) rfl rfl (by kernel_rfl) (q_move rfl) ?_))))
   refine ah_s 18 (fun w9 hs => (hs.fewer 1 rfl)) rfl rfl (by kernel_rfl) (ah_s 19 (fun w9 hs => (hs.fewer 1 rfl)) rfl rfl (by kernel_rfl) (ah_s 20 (fun w9 hs => (hs.fewer 1 rfl)) rfl rfl (by kernel_rfl) (ah_s 21 (fun w9 hs => (hs.fewer 1 rfl)) rfl rfl (by kernel_rfl) (ah_s 22 (fun w9 hs => (hs.fewer 1 rfl)) rfl rfl (by kernel_rfl) ?_))))
   refine ah_s 23 (fun w9 hs => (hs.fewer 1 rfl)) rfl rfl (by kernel_rfl) (ah_s 24 (fun w9 hs => (hs.fewer 1 rfl)) rfl rfl (by kernel_rfl) (ah_t 25 (fun w9 hs => (hs.fewer 1 rfl)) rfl rfl (by kernel_rfl) (q_pickF rfl rfl) (ah_t 26 (fun w9 hs => (hs.fewer 1 rfl)) rfl rfl (by kernel_rfl) (q_move rfl) (ah_s 27 (fun w9 hs => (hs.fewer 1 rfl)) rfl rfl (by kernel_rfl) ?_))))
   refine ah_s 28 (fun w9 hs => (hs.fewer 1 rfl)) rfl rfl (by kernel_rfl) (ah_s 29 (fun w9 hs => (hs.fewer 1 rfl)) rfl rfl (by kernel_rfl) (ah_t 30 (fun w9 hs => (hs.fewer 1 rfl)) rfl rfl (by kernel_rfl) (q_pickF rfl rfl) (ah_t 31 (fun w9 hs => (hs.fewer 1 rfl)) rfl rfl (by kernel_rfl) (q_move rfl) (ah_s 32 (fun w9 hs => (hs.fewer 1 rfl)) rfl rfl (by kernel_rfl) ?_))))
   refine ah_s 33 (fun w9 hs => (hs.fewer 1 rfl)) rfl rfl (by kernel_rfl) (ah_s 34 (fun w9 hs => (hs.fewer 1 rfl)) rfl rfl (by kernel_rfl) (ah_s 35 (fun w9 hs => (hs.fewer 1 rfl)) rfl rfl (by kernel_rfl) (ah_s 36 (fun w9 hs => (hs.fewer 1 rfl)) rfl rfl (by kernel_rfl) (ah_s 37 (fun w9 hs => (hs.fewer 1 rfl)) rfl rfl (by kernel_rfl) ?_))))
   refine ah_s 38 (fun w9 hs => (hs.fewer 1 rfl)) rfl rfl (by kernel_rfl) (ah_t 39 (fun w9 hs => (hs.fewer 1 rfl)) rfl rfl (by kernel_rfl) (q_pickF rfl rfl) (ah_t 40 (fun w9 hs => (hs.fewer 1 rfl)) rfl rfl (by kernel_rfl) (q_move rfl) (ah_s 41 (fun w9 hs => (hs.fewer 1 rfl)) rfl rfl (by kernel_rfl) (ah_s 42 (fun w9 hs => (hs.fewer 1 rfl)) rfl rfl (by kernel_rfl) ?_))))
   refine ah_s 43 (fun w9 hs => (hs.fewer 1 rfl)) rfl rfl (by kernel_rfl) (ah_t 44 (fun w9 hs => (hs.fewer 1 rfl)) rfl rfl (by kernel_rfl) (q_pickF rfl rfl) (ah_t 45 (fun w9 hs => (hs.fewer 1 rfl)) rfl rfl (by kernel_rfl) (q_move rfl) (ah_s 46 (fun w9 hs => (hs.fewer 1 rfl)) rfl rfl (by kernel_rfl) (ah_s 47 (fun w9 hs => (hs.fewer 1 rfl)) rfl rfl (by kernel_rfl) ?_))))
   refine ah_s 48 (fun w9 hs => (hs.fewer 1 rfl)) rfl rfl (by kernel_rfl) (ah_t 49 (fun w9 hs => (hs.fewer 1 rfl)) rfl rfl (by kernel_rfl) (q_pickF rfl rfl) (ah_one 50 rfl (by kernel_rfl) (fun hok13 hcl13 => ?_)))
   refine al_p (q_assign rfl) (al_end (ah_last (by kernel_rfl) ?_))
   refine aq_then (ac_ret (ret1 Tryz.results40 rfl (fun w9 hs => ?_)))
   refine ⟨?_, hs.below⟩; simp [validC, na, la, nb, lb, nc, q1, q2]
 ·have q1 : ¬ checkC M = 0 := of_decide_eq_false hb1
  refine ah_s 4 (fun w9 hs => (hs.fewer 1 rfl)) rfl rfl (by kernel_rfl) (ah_s 5 (fun w9 hs => (hs.fewer 1 rfl)) rfl rfl (by kernel_rfl) (ah_s 6 (fun w9 hs => (hs.fewer 1 rfl)) rfl rfl (by kernel_rfl) (ah_s 7 (fun w9 hs => (hs.fewer 1 rfl)) rfl rfl (by kernel_rfl) (ah_s 8 (fun w9 hs => (hs.fewer 1 rfl)) rfl rfl (by kernel_rfl) ?_))))
  refine ah_s 9 (fun w9 hs => (hs.fewer 1 rfl)) rfl rfl (by kernel_rfl) (ah_s 10 (fun w9 hs => (hs.fewer 1 rfl)) rfl rfl (by kernel_rfl) (ah_t 11 (fun w9 hs => (hs.fewer 1 rfl)) rfl rfl (by kernel_rfl) (q_pickF rfl rfl) (ah_t 12 (fun w9 hs => (hs.fewer 1 rfl)) rfl rfl (by kernel_rfl) (q_move rfl) (ah_s 13 (fun w9 hs => (hs.fewer 1 rfl)) rfl rfl (by kernel_rfl) ?_))))
  refine ah_s 14 (fun w9 hs => (hs.fewer 1 rfl)) rfl rfl (by kernel_rfl) (ah_s 15 (fun w9 hs => (hs.fewer 1 rfl)) rfl rfl (by kernel_rfl) (ah_t 16 (fun w9 hs => (hs.fewer 1 rfl)) rfl rfl (by kernel_rfl) (q_pickF rfl rfl) (ah_t 17 (fun w9 hs => (hs.fewer 1 rfl)) rfl rfl (by kernel_rfl) (q_move rfl) (ah_s 18 (fun w9 hs => (hs.fewer 1 rfl)) rfl rfl (by kernel_rfl) ?_))))
  refine ah_s 19 (fun w9 hs => (hs.fewer 1 rfl)) rfl rfl (by kernel_rfl) (ah_s 20 (fun w9 hs => (hs.fewer 1 rfl)) rfl rfl (by kernel_rfl) (ah_s 21 (fun w9 hs => (hs.fewer 1 rfl)) rfl rfl (by kernel_rfl) (ah_s 22 (fun w9 hs => (hs.fewer 1 rfl)) rfl rfl (by kernel_rfl) (ah_s 23 (fun w9 hs => (hs.fewer 1 rfl)) rfl rfl (by kernel_rfl) ?_))))
  refine ah_s 24 (fun w9 hs => (hs.fewer 1 rfl)) rfl rfl (by kernel_rfl) (ah_t 25 (fun w9 hs => (hs.fewer 1 rfl)) rfl rfl (by kernel_rfl) (q_pickF rfl rfl) (ah_t 26 (fun w9 hs => (hs.fewer 1 rfl)) rfl rfl (by kernel_rfl) (q_move rfl) (ah_s 27 (fun w9 hs => (hs.fewer 1 rfl)) rfl rfl (by kernel_rfl) (ah_s 28 (fun w9 hs => (hs.fewer 1 rfl)) rfl rfl (by kernel_rfl) ?_))))
  refine ah_s 29 (fun w9 hs => (hs.fewer 1 rfl)) rfl rfl (by kernel_rfl) (ah_t 30 (fun w9 hs => (hs.fewer 1 rfl)) rfl rfl (by kernel_rfl) (q_pickF rfl rfl) (ah_t 31 (fun w9 hs => (hs.fewer 1 rfl)) rfl rfl (by kernel_rfl) (q_move rfl) (ah_s 32 (fun w9 hs => (hs.fewer 1 rfl)) rfl rfl (by kernel_rfl) (ah_s 33 (fun w9 hs => (hs.fewer 1 rfl)) rfl rfl (by kernel_rfl) ?_))))
  refine ah_s 34 (fun w9 hs => (hs.fewer 1 rfl)) rfl rfl (by kernel_rfl) (ah_s 35 (fun w9 hs => (hs.fewer 1 rfl)) rfl rfl (by kernel_rfl) (ah_s 36 (fun w9 hs => (hs.fewer 1 rfl)) rfl rfl (by kernel_rfl) (ah_s 37 (fun w9 hs => (hs.fewer 1 rfl)) rfl rfl (by kernel_rfl) (ah_s 38 (fun w9 hs => (hs.fewer 1 rfl)) rfl rfl (by kernel_rfl) ?_))))
  refine ah_t 39 (fun w9 hs => (hs.fewer 1 rfl)) rfl rfl (by kernel_rfl) (q_pickF rfl rfl) (ah_t 40 (fun w9 hs => (hs.fewer 1 rfl)) rfl rfl (by kernel_rfl) (q_move rfl) (ah_s 41 (fun w9 hs => (hs.fewer 1 rfl)) rfl rfl (by kernel_rfl) (ah_s 42 (fun w9 hs => (hs.fewer 1 rfl)) rfl rfl (by kernel_rfl) (ah_s 43 (fun w9 hs => (hs.fewer 1 rfl)) rfl rfl (by kernel_rfl) ?_))))
  refine ah_t 44 (fun w9 hs => (hs.fewer 1 rfl)) rfl rfl (by kernel_rfl) (q_pickF rfl rfl) (ah_t 45 (fun w9 hs => (hs.fewer 1 rfl)) rfl rfl (by kernel_rfl) (q_move rfl) (ah_s 46 (fun w9 hs => (hs.fewer 1 rfl)) rfl rfl (by kernel_rfl) (ah_s 47 (fun w9 hs => (hs.fewer 1 rfl)) rfl rfl (by kernel_rfl) (ah_s 48 (fun w9 hs => (hs.fewer 1 rfl)) rfl rfl (by kernel_rfl) ?_))))
  refine ah_t 49 (fun w9 hs => (hs.fewer 1 rfl)) rfl rfl (by kernel_rfl) (q_pickF rfl rfl) (ah_one 50 rfl (by kernel_rfl) (fun hok14 hcl14 => ?_))
  refine al_p (q_assign rfl) (al_end (ah_last (by kernel_rfl) ?_))
  refine aq_then (ac_ret (ret1 Tryz.results40 rfl (fun w9 hs => ?_)))
  refine ⟨?_, hs.below⟩; simp [validC, na, la, nb, lb, nc, q1]
end
end Go.Proofs.YthggkidiidnaoaaGreatDoor
