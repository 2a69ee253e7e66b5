import Derived.Test.YtogcjgjhmlifgaaGreatOAH
import Derived.WalkKit
import Derived.Lib.Hide
import Derived.Deep.RegionHeld
namespace Go.Proofs.YtogcjgjhmlifgaaGreat
set_option linter.unusedVariables false
set_option linter.unusedSimpArgs false
section
open Go.RowKit Go.Shelf
attribute [local go_sem] Oper.semAt_some
set_option maxRecDepth 100000 in
set_option maxHeartbeats 16000000 in
theorem fluxAt_any0 (name : ByteArray) (A B Cl D : Option Addr) (la ca lb cb lc cl ld cd : Nat) (g : GridD) (hg : g.Fine) (A1 B1 C : Option Addr) (na qa nb qb len cap : Nat) (cs : List CoilD) (ss : List ShellD) (z1 z2 z3 : List Int) (p0 p1 : Int) (w : World)
    (hA : IsT 8 CoilD.cells w A la cs) (hBb : IsT 4 ShellD.cells w B lb ss) (hA1 : IsT 1 intCells w A1 na z1) (hB1 : IsT 1 intCells w B1 nb z2) (hI : IsT 1 intCells w C len z3) (h1 : z1.length = cs.length) (h2 : z2.length = ss.length) (hl : len ≤ 1000) (kla : la ≤ 1000) (klb : lb ≤ 1000)
    (hmul : ∀ (k : Nat) c x, cs[k]? = some c → z1[k]? = some x → IntKind.i64.wrap (c.turns * x) = c.turns * x) :
    Calls Tryz.prog 77 #[.agg #[.string name, .slice A la ca, .slice B lb cb, .slice Cl lc cl, .int .i64 g.r, .int .i64 g.z, .int .i64 g.nr, .int .i64 g.nz, .int .i64 g.step, .slice D ld cd], .agg #[.slice A1 na qa, .slice B1 nb qb, .slice C len cap], .agg #[.int .i64 p0, .int .i64 p1]] w
      (Ret (.int .i64 (fluxW (p0, p1) 0 (srcL g cs ss z1 z2 z3))) w) := by
  refine (callsIn_wide (n := 8)).1 ?_
  have h87 : Fence.wide.fn 117 := trivial
  have h88 : Fence.wide.fn 112 := trivial
  have hP := fun (pre : List Src) (x : Src) => fluxW_snoc (p0, p1) 0 pre x
  have HP := Lib.hid hP
  clear hP
  refine callsIn_of_wp_marks Tryz.func77 rfl trivial ?_ rfl
  simp only [Tryz.ntmps77, List.size_toArray, List.length_cons, List.length_nil, Nat.reduceAdd, Nat.reduceSub, Array.replicate_succ, Array.replicate_zero, List.push_toArray, List.append_toArray, List.nil_append, List.cons_append]
  gi_wp2_with (gi_at_call 117; refine (sources_in _ _ _ _).mono ?_; rintro e w' ⟨rfl, rfl⟩)
  have hB0 : Below w.heap.size w ((((((w.alloc (.cells #[.string name, .slice A la ca, .slice B lb cb, .slice Cl lc cl, .int .i64 g.r, .int .i64 g.z, .int .i64 g.nr, .int .i64 g.nz, .int .i64 g.step, .slice D ld cd] 29)).alloc (.cells #[.slice A1 na qa, .slice B1 nb qb, .slice C len cap] 32)).alloc (.cells #[.int .i64 p0, .int .i64 p1] 36)).alloc (.cells #[.int .i64 0] 3)).alloc (.cells #[.string name, .slice A la ca, .slice B lb cb, .slice Cl lc cl, .int .i64 g.r, .int .i64 g.z, .int .i64 g.nr, .int .i64 g.nz, .int .i64 g.step, .slice D ld cd] 29)).alloc (.cells #[.slice A1 na qa, .slice B1 nb qb, .slice C len cap] 32)) := by (repeat first | with_reducible exact Below.refl _ _ | (with_reducible refine Below.alloc ?_ ?_ _; rotate_left; exact (by first | omega | (simp; done) | (simp; omega))))
  have hsz : ((((((w.alloc (.cells #[.string name, .slice A la ca, .slice B lb cb, .slice Cl lc cl, .int .i64 g.r, .int .i64 g.z, .int .i64 g.nr, .int .i64 g.nz, .int .i64 g.step, .slice D ld cd] 29)).alloc (.cells #[.slice A1 na qa, .slice B1 nb qb, .slice C len cap] 32)).alloc (.cells #[.int .i64 p0, .int .i64 p1] 36)).alloc (.cells #[.int .i64 0] 3)).alloc (.cells #[.string name, .slice A la ca, .slice B lb cb, .slice Cl lc cl, .int .i64 g.r, .int .i64 g.z, .int .i64 g.nr, .int .i64 g.nz, .int .i64 g.step, .slice D ld cd] 29)).alloc (.cells #[.slice A1 na qa, .slice B1 nb qb, .slice C len cap] 32)).heap.size = w.heap.size + 1 + 1 + 1 + 1 + 1 + 1 := by simp
  have s0 : ((((((w.alloc (.cells #[.string name, .slice A la ca, .slice B lb cb, .slice Cl lc cl, .int .i64 g.r, .int .i64 g.z, .int .i64 g.nr, .int .i64 g.nz, .int .i64 g.step, .slice D ld cd] 29)).alloc (.cells #[.slice A1 na qa, .slice B1 nb qb, .slice C len cap] 32)).alloc (.cells #[.int .i64 p0, .int .i64 p1] 36)).alloc (.cells #[.int .i64 0] 3)).alloc (.cells #[.string name, .slice A la ca, .slice B lb cb, .slice Cl lc cl, .int .i64 g.r, .int .i64 g.z, .int .i64 g.nr, .int .i64 g.nz, .int .i64 g.step, .slice D ld cd] 29)).alloc (.cells #[.slice A1 na qa, .slice B1 nb qb, .slice C len cap] 32)).cell? ⟨w.heap.size + 1 + 1 + 1, 0, none⟩ = some (.int .i64 0) := by go_simp
  have sf : ((((((w.alloc (.cells #[.string name, .slice A la ca, .slice B lb cb, .slice Cl lc cl, .int .i64 g.r, .int .i64 g.z, .int .i64 g.nr, .int .i64 g.nz, .int .i64 g.step, .slice D ld cd] 29)).alloc (.cells #[.slice A1 na qa, .slice B1 nb qb, .slice C len cap] 32)).alloc (.cells #[.int .i64 p0, .int .i64 p1] 36)).alloc (.cells #[.int .i64 0] 3)).alloc (.cells #[.string name, .slice A la ca, .slice B lb cb, .slice Cl lc cl, .int .i64 g.r, .int .i64 g.z, .int .i64 g.nr, .int .i64 g.nz, .int .i64 g.step, .slice D ld cd] 29)).alloc (.cells #[.slice A1 na qa, .slice B1 nb qb, .slice C len cap] 32)).frozen? ⟨w.heap.size + 1 + 1 + 1, 0, none⟩ = false := by go_simp
  have q0 : ((((((w.alloc (.cells #[.string name, .slice A la ca, .slice B lb cb, .slice Cl lc cl, .int .i64 g.r, .int .i64 g.z, .int .i64 g.nr, .int .i64 g.nz, .int .i64 g.step, .slice D ld cd] 29)).alloc (.cells #[.slice A1 na qa, .slice B1 nb qb, .slice C len cap] 32)).alloc (.cells #[.int .i64 p0, .int .i64 p1] 36)).alloc (.cells #[.int .i64 0] 3)).alloc (.cells #[.string name, .slice A la ca, .slice B lb cb, .slice Cl lc cl, .int .i64 g.r, .int .i64 g.z, .int .i64 g.nr, .int .i64 g.nz, .int .i64 g.step, .slice D ld cd] 29)).alloc (.cells #[.slice A1 na qa, .slice B1 nb qb, .slice C len cap] 32)).cell? ⟨w.heap.size + 1 + 1, 0, none⟩ = some (.int .i64 p0) := by go_simp
  have q1 : ((((((w.alloc (.cells #[.string name, .slice A la ca, .slice B lb cb, .slice Cl lc cl, .int .i64 g.r, .int .i64 g.z, .int .i64 g.nr, .int .i64 g.nz, .int .i64 g.step, .slice D ld cd] 29)).alloc (.cells #[.slice A1 na qa, .slice B1 nb qb, .slice C len cap] 32)).alloc (.cells #[.int .i64 p0, .int .i64 p1] 36)).alloc (.cells #[.int .i64 0] 3)).alloc (.cells #[.string name, .slice A la ca, .slice B lb cb, .slice Cl lc cl, .int .i64 g.r, .int .i64 g.z, .int .i64 g.nr, .int .i64 g.nz, .int .i64 g.step, .slice D ld cd] 29)).alloc (.cells #[.slice A1 na qa, .slice B1 nb qb, .slice C len cap] 32)).cell? ⟨w.heap.size + 1 + 1, 1, none⟩ = some (.int .i64 p1) := by go_simp
  have m1 : ((((((w.alloc (.cells #[.string name, .slice A la ca, .slice B lb cb, .slice Cl lc cl, .int .i64 g.r, .int .i64 g.z, .int .i64 g.nr, .int .i64 g.nz, .int .i64 g.step, .slice D ld cd] 29)).alloc (.cells #[.slice A1 na qa, .slice B1 nb qb, .slice C len cap] 32)).alloc (.cells #[.int .i64 p0, .int .i64 p1] 36)).alloc (.cells #[.int .i64 0] 3)).alloc (.cells #[.string name, .slice A la ca, .slice B lb cb, .slice Cl lc cl, .int .i64 g.r, .int .i64 g.z, .int .i64 g.nr, .int .i64 g.nz, .int .i64 g.step, .slice D ld cd] 29)).alloc (.cells #[.slice A1 na qa, .slice B1 nb qb, .slice C len cap] 32)).cell? ⟨w.heap.size + 1 + 1 + 1 + 1, 1, none⟩ = some (.slice A la ca) := by go_simp
  have m2 : ((((((w.alloc (.cells #[.string name, .slice A la ca, .slice B lb cb, .slice Cl lc cl, .int .i64 g.r, .int .i64 g.z, .int .i64 g.nr, .int .i64 g.nz, .int .i64 g.step, .slice D ld cd] 29)).alloc (.cells #[.slice A1 na qa, .slice B1 nb qb, .slice C len cap] 32)).alloc (.cells #[.int .i64 p0, .int .i64 p1] 36)).alloc (.cells #[.int .i64 0] 3)).alloc (.cells #[.string name, .slice A la ca, .slice B lb cb, .slice Cl lc cl, .int .i64 g.r, .int .i64 g.z, .int .i64 g.nr, .int .i64 g.nz, .int .i64 g.step, .slice D ld cd] 29)).alloc (.cells #[.slice A1 na qa, .slice B1 nb qb, .slice C len cap] 32)).cell? ⟨w.heap.size + 1 + 1 + 1 + 1, 2, none⟩ = some (.slice B lb cb) := by go_simp
  have m4 : ((((((w.alloc (.cells #[.string name, .slice A la ca, .slice B lb cb, .slice Cl lc cl, .int .i64 g.r, .int .i64 g.z, .int .i64 g.nr, .int .i64 g.nz, .int .i64 g.step, .slice D ld cd] 29)).alloc (.cells #[.slice A1 na qa, .slice B1 nb qb, .slice C len cap] 32)).alloc (.cells #[.int .i64 p0, .int .i64 p1] 36)).alloc (.cells #[.int .i64 0] 3)).alloc (.cells #[.string name, .slice A la ca, .slice B lb cb, .slice Cl lc cl, .int .i64 g.r, .int .i64 g.z, .int .i64 g.nr, .int .i64 g.nz, .int .i64 g.step, .slice D ld cd] 29)).alloc (.cells #[.slice A1 na qa, .slice B1 nb qb, .slice C len cap] 32)).cell? ⟨w.heap.size + 1 + 1 + 1 + 1, 4, none⟩ = some (.int .i64 g.r) := by go_simp
  have m5 : ((((((w.alloc (.cells #[.string name, .slice A la ca, .slice B lb cb, .slice Cl lc cl, .int .i64 g.r, .int .i64 g.z, .int .i64 g.nr, .int .i64 g.nz, .int .i64 g.step, .slice D ld cd] 29)).alloc (.cells #[.slice A1 na qa, .slice B1 nb qb, .slice C len cap] 32)).alloc (.cells #[.int .i64 p0, .int .i64 p1] 36)).alloc (.cells #[.int .i64 0] 3)).alloc (.cells #[.string name, .slice A la ca, .slice B lb cb, .slice Cl lc cl, .int .i64 g.r, .int .i64 g.z, .int .i64 g.nr, .int .i64 g.nz, .int .i64 g.step, .slice D ld cd] 29)).alloc (.cells #[.slice A1 na qa, .slice B1 nb qb, .slice C len cap] 32)).cell? ⟨w.heap.size + 1 + 1 + 1 + 1, 5, none⟩ = some (.int .i64 g.z) := by go_simp
  have m6 : ((((((w.alloc (.cells #[.string name, .slice A la ca, .slice B lb cb, .slice Cl lc cl, .int .i64 g.r, .int .i64 g.z, .int .i64 g.nr, .int .i64 g.nz, .int .i64 g.step, .slice D ld cd] 29)).alloc (.cells #[.slice A1 na qa, .slice B1 nb qb, .slice C len cap] 32)).alloc (.cells #[.int .i64 p0, .int .i64 p1] 36)).alloc (.cells #[.int .i64 0] 3)).alloc (.cells #[.string name, .slice A la ca, .slice B lb cb, .slice Cl lc cl, .int .i64 g.r, .int .i64 g.z, .int .i64 g.nr, .int .i64 g.nz, .int .i64 g.step, .slice D ld cd] 29)).alloc (.cells #[.slice A1 na qa, .slice B1 nb qb, .slice C len cap] 32)).cell? ⟨w.heap.size + 1 + 1 + 1 + 1, 6, none⟩ = some (.int .i64 g.nr) := by go_simp
  have m7 : ((((((w.alloc (.cells #[.string name, .slice A la ca, .slice B lb cb, .slice Cl lc cl, .int .i64 g.r, .int .i64 g.z, .int .i64 g.nr, .int .i64 g.nz, .int .i64 g.step, .slice D ld cd] 29)).alloc (.cells #[.slice A1 na qa, .slice B1 nb qb, .slice C len cap] 32)).alloc (.cells #[.int .i64 p0, .int .i64 p1] 36)).alloc (.cells #[.int .i64 0] 3)).alloc (.cells #[.string name, .slice A la ca, .slice B lb cb, .slice Cl lc cl, .int .i64 g.r, .int .i64 g.z, .int .i64 g.nr, .int .i64 g.nz, .int .i64 g.step, .slice D ld cd] 29)).alloc (.cells #[.slice A1 na qa, .slice B1 nb qb, .slice C len cap] 32)).cell? ⟨w.heap.size + 1 + 1 + 1 + 1, 7, none⟩ = some (.int .i64 g.nz) := by go_simp
  have m8 : ((((((w.alloc (.cells #[.string name, .slice A la ca, .slice B lb cb, .slice Cl lc cl, .int .i64 g.r, .int .i64 g.z, .int .i64 g.nr, .int .i64 g.nz, .int .i64 g.step, .slice D ld cd] 29)).alloc (.cells #[.slice A1 na qa, .slice B1 nb qb, .slice C len cap] 32)).alloc (.cells #[.int .i64 p0, .int .i64 p1] 36)).alloc (.cells #[.int .i64 0] 3)).alloc (.cells #[.string name, .slice A la ca, .slice B lb cb, .slice Cl lc cl, .int .i64 g.r, .int .i64 g.z, .int .i64 g.nr, .int .i64 g.nz, .int .i64 g.step, .slice D ld cd] 29)).alloc (.cells #[.slice A1 na qa, .slice B1 nb qb, .slice C len cap] 32)).cell? ⟨w.heap.size + 1 + 1 + 1 + 1, 8, none⟩ = some (.int .i64 g.step) := by go_simp
  have k0 : ((((((w.alloc (.cells #[.string name, .slice A la ca, .slice B lb cb, .slice Cl lc cl, .int .i64 g.r, .int .i64 g.z, .int .i64 g.nr, .int .i64 g.nz, .int .i64 g.step, .slice D ld cd] 29)).alloc (.cells #[.slice A1 na qa, .slice B1 nb qb, .slice C len cap] 32)).alloc (.cells #[.int .i64 p0, .int .i64 p1] 36)).alloc (.cells #[.int .i64 0] 3)).alloc (.cells #[.string name, .slice A la ca, .slice B lb cb, .slice Cl lc cl, .int .i64 g.r, .int .i64 g.z, .int .i64 g.nr, .int .i64 g.nz, .int .i64 g.step, .slice D ld cd] 29)).alloc (.cells #[.slice A1 na qa, .slice B1 nb qb, .slice C len cap] 32)).cell? ⟨w.heap.size + 1 + 1 + 1 + 1 + 1, 0, none⟩ = some (.slice A1 na qa) := by go_simp
  have k1 : ((((((w.alloc (.cells #[.string name, .slice A la ca, .slice B lb cb, .slice Cl lc cl, .int .i64 g.r, .int .i64 g.z, .int .i64 g.nr, .int .i64 g.nz, .int .i64 g.step, .slice D ld cd] 29)).alloc (.cells #[.slice A1 na qa, .slice B1 nb qb, .slice C len cap] 32)).alloc (.cells #[.int .i64 p0, .int .i64 p1] 36)).alloc (.cells #[.int .i64 0] 3)).alloc (.cells #[.string name, .slice A la ca, .slice B lb cb, .slice Cl lc cl, .int .i64 g.r, .int .i64 g.z, .int .i64 g.nr, .int .i64 g.nz, .int .i64 g.step, .slice D ld cd] 29)).alloc (.cells #[.slice A1 na qa, .slice B1 nb qb, .slice C len cap] 32)).cell? ⟨w.heap.size + 1 + 1 + 1 + 1 + 1, 1, none⟩ = some (.slice B1 nb qb) := by go_simp
  have k2 : ((((((w.alloc (.cells #[.string name, .slice A la ca, .slice B lb cb, .slice Cl lc cl, .int .i64 g.r, .int .i64 g.z, .int .i64 g.nr, .int .i64 g.nz, .int .i64 g.step, .slice D ld cd] 29)).alloc (.cells #[.slice A1 na qa, .slice B1 nb qb, .slice C len cap] 32)).alloc (.cells #[.int .i64 p0, .int .i64 p1] 36)).alloc (.cells #[.int .i64 0] 3)).alloc (.cells #[.string name, .slice A la ca, .slice B lb cb, .slice Cl lc cl, .int .i64 g.r, .int .i64 g.z, .int .i64 g.nr, .int .i64 g.nz, .int .i64 g.step, .slice D ld cd] 29)).alloc (.cells #[.slice A1 na qa, .slice B1 nb qb, .slice C len cap] 32)).cell? ⟨w.heap.size + 1 + 1 + 1 + 1 + 1, 2, none⟩ = some (.slice C len cap) := by go_simp
  obtain ⟨S, hS⟩ : ∃ S, srcL g cs ss z1 z2 z3 = S := ⟨_, rfl⟩
  rw [hS]
  obtain ⟨W0, hW0⟩ : ∃ W0, ((((((w.alloc (.cells #[.string name, .slice A la ca, .slice B lb cb, .slice Cl lc cl, .int .i64 g.r, .int .i64 g.z, .int .i64 g.nr, .int .i64 g.nz, .int .i64 g.step, .slice D ld cd] 29)).alloc (.cells #[.slice A1 na qa, .slice B1 nb qb, .slice C len cap] 32)).alloc (.cells #[.int .i64 p0, .int .i64 p1] 36)).alloc (.cells #[.int .i64 0] 3)).alloc (.cells #[.string name, .slice A la ca, .slice B lb cb, .slice Cl lc cl, .int .i64 g.r, .int .i64 g.z, .int .i64 g.nr, .int .i64 g.nz, .int .i64 g.step, .slice D ld cd] 29)).alloc (.cells #[.slice A1 na qa, .slice B1 nb qb, .slice C len cap] 32)) = W0 := ⟨_, rfl⟩
  rw [hW0] at hB0 hsz s0 sf q0 q1 m1 m2 m4 m5 m6 m7 m8 k0 k1 k2 ⊢
  clear hW0
  have hseq : SeqStopsK Fence.wide 7 Tryz.prog 158 #[.pointer (some ⟨w.heap.size + 1 + 1 + 1 + 1, 0, none⟩), .pointer (some ⟨w.heap.size + 1 + 1 + 1 + 1 + 1, 0, none⟩)] srcEnc (KpF w.heap.size (w.heap.size + 1 + 1 + 1 + 1) (w.heap.size + 1 + 1 + 1 + 1 + 1)) (fun ys => ys = S) (fun pre => ∃ k, k ≤ S.length ∧ pre = S.take k) S.length W0 := fun l J Jx W hW hJa _ hY h0 =>
    sources1_any 7 (by omega) l (w.heap.size + 1 + 1 + 1 + 1) (w.heap.size + 1 + 1 + 1 + 1 + 1) la ca lb cb na qa nb qb len cap A B A1 B1 C g hg cs ss z1 z2 z3 S h1 h2 hS.symm hl kla klb hmul J Jx w (fun pre X Y hj hb => hJa pre X Y none hj (grown_of_below hb) (fun r e => by cases e)) hY W hA hBb hA1 hB1 hI (hB0.trans (hW.mono (by omega)))
      (by have := hW.size; omega) (by have := hW.size; omega)
      ((hW.cell (p := ⟨_, _, none⟩) (by dsimp only; omega)).trans m1) ((hW.cell (p := ⟨_, _, none⟩) (by dsimp only; omega)).trans m2) ((hW.cell (p := ⟨_, _, none⟩) (by dsimp only; omega)).trans m4) ((hW.cell (p := ⟨_, _, none⟩) (by dsimp only; omega)).trans m5) ((hW.cell (p := ⟨_, _, none⟩) (by dsimp only; omega)).trans m6) ((hW.cell (p := ⟨_, _, none⟩) (by dsimp only; omega)).trans m7) ((hW.cell (p := ⟨_, _, none⟩) (by dsimp only; omega)).trans m8)
      ((hW.cell (p := ⟨_, _, none⟩) (by dsimp only; omega)).trans k0) ((hW.cell (p := ⟨_, _, none⟩) (by dsimp only; omega)).trans k1) ((hW.cell (p := ⟨_, _, none⟩) (by dsimp only; omega)).trans k2) h0
  clear hmul
  refine wpIn_rangeFunc_ownH rfl (by omega) (gf := 158) (lb := #[.pointer (some ⟨w.heap.size + 1 + 1 + 1 + 1, 0, none⟩), .pointer (some ⟨w.heap.size + 1 + 1 + 1 + 1 + 1, 0, none⟩)]) rfl trivial (enters_of Tryz.func158 (by kernel_rfl) rfl)
    hseq KpF.t (KpF.b (by omega) (by omega) (by omega)) (Below.refl _ _) (fun _ => rfl)
    (fun pre W => ((W.cell? ⟨w.heap.size + 1 + 1 + 1, 0, none⟩ = some (.int .i64 (fluxW (p0, p1) 0 pre)) ∧ W.frozen? ⟨w.heap.size + 1 + 1 + 1, 0, none⟩ = false) ∧ (W.cell? ⟨w.heap.size + 1 + 1, 0, none⟩ = some (.int .i64 p0) ∧ W.cell? ⟨w.heap.size + 1 + 1, 1, none⟩ = some (.int .i64 p1))) ∧ (Below w.heap.size w W ∧ W0.heap.size ≤ W.heap.size))
    (fun _ _ _ => False)
    (OwnFrom.and (OwnFrom.and (Own.from (fun s X Y row hs hg hr => ⟨cell_kept hs.1 hg hr, (frozen_kept hs.1 hg hr).trans hs.2⟩) _) (Own.from (fun s X Y row hs hg hr => ⟨cell_kept hs.1 hg hr, cell_kept hs.2 hg hr⟩) _)) (OwnFrom.and (ownFrom_below (Nat.le_refl _) (by omega)) (fun _ _ _ _ hs hg _ => Nat.le_trans hs hg.size)))
    (fun _ _ _ _ _ hs _ _ => hs)
    ⟨⟨⟨s0, sf⟩, q0, q1⟩, hB0, Nat.le_refl _⟩
    (fun x a' W => ∃ Bx, W0.heap.size ≤ Bx ∧ Bx < W.heap.size ∧ (W.cell? ⟨Bx, 0, none⟩ = some (.int .i64 x.1.1) ∧ W.cell? ⟨Bx, 1, none⟩ = some (.int .i64 x.1.2)) ∧ a' = { tmps := #[.agg #[.string name, .slice A la ca, .slice B lb cb, .slice Cl lc cl, .int .i64 g.r, .int .i64 g.z, .int .i64 g.nr, .int .i64 g.nz, .int .i64 g.step, .slice D ld cd], .agg #[.slice A1 na qa, .slice B1 nb qb, .slice C len cap], .agg #[.int .i64 p0, .int .i64 p1], .pointer (some ⟨w.heap.size, 0, none⟩), .pointer (some ⟨w.heap.size + 1, 0, none⟩), .pointer (some ⟨w.heap.size + 1 + 1, 0, none⟩), .int .i64 0, .pointer (some ⟨w.heap.size + 1 + 1 + 1, 0, none⟩), .pointer (some ⟨Bx, 0, none⟩), .int .i64 x.2, .agg #[.string name, .slice A la ca, .slice B lb cb, .slice Cl lc cl, .int .i64 g.r, .int .i64 g.z, .int .i64 g.nr, .int .i64 g.nz, .int .i64 g.step, .slice D ld cd], .agg #[.slice A1 na qa, .slice B1 nb qb, .slice C len cap], .func (.func 158) #[] #[.pointer (some ⟨w.heap.size + 1 + 1 + 1 + 1, 0, none⟩), .pointer (some ⟨w.heap.size + 1 + 1 + 1 + 1 + 1, 0, none⟩)], .agg #[.int .i64 x.1.1, .int .i64 x.1.2], .int .i64 x.2, undef, undef, undef, undef, undef, undef, undef, undef], defers := [] })
    (fun x a' _ X Y row hs hg hr => by obtain ⟨Bx, h1, h2, h3, h4⟩ := hs; exact ⟨Bx, h1, Nat.lt_of_lt_of_le h2 hg.size, ⟨cell_kept h3.1 hg (fun r e => (hr r e).2), cell_kept h3.2 hg (fun r e => (hr r e).2)⟩, h4⟩)
    ?assign ?body ?done ?stop
  case assign =>
    rintro l pre x W K hI hK
    have hW := hI.2.2
    gi_wp2
    refine hK _ _ ((KeepsOthers.alloc _ _).from _) (KpF.of_below (by omega) (by omega) (by omega) ((Below.refl _ W).alloc (Nat.le_refl _) _)) ⟨⟨⟨?_, ?_⟩, ?_, ?_⟩, hI.2.1.alloc hI.2.1.size _, by simp; omega⟩ ⟨W.heap.size, hW, by simp, ⟨by go_simp, by go_simp⟩, rfl⟩
    · rw [World.cell?_alloc_old _ _ _ (by dsimp only; omega)]; exact hI.1.1.1
    · rw [World.frozen?_alloc_old _ _ _ (by dsimp only; omega)]; exact hI.1.1.2
    · rw [World.cell?_alloc_old _ _ _ (by dsimp only; omega)]; exact hI.1.2.1
    · rw [World.cell?_alloc_old _ _ _ (by dsimp only; omega)]; exact hI.1.2.2
  case body =>
    rintro l pre x a' W hl' ⟨r, hr⟩ ⟨⟨⟨c0, f0⟩, c1, c2⟩, hB, hW⟩ ⟨Bx, hBx, hBx2, ⟨b0, b1⟩, rfl⟩ hlt
    have hd : 1 ≤ 8 - 1 - 1 := by omega
    have hmx : Tryz.prog.follows .mixedOrders = true := by kernel_rfl
    obtain ⟨⟨xr, xz⟩, xc⟩ := x
    have HX := Lib.hid (HP.out pre ((xr, xz), xc))
    dsimp only at *
    generalize fluxW (p0, p1) 0 pre = sm at *
    gi_wp2
    gi_region_with_o (gi_at_call 112; refine (CallsIn.inRound l (callsIn_wide.2 (influence_any _ _ _ _ _))).mono ?_; rintro e w1 ⟨rfl, hb⟩; have d0 := (hb.cell (p := ⟨w.heap.size + 1 + 1 + 1, 0, none⟩) (by (show _ < W.heap.size; dsimp only; omega))).trans (by exact c0); have g0 := (hb.frozen (p := ⟨w.heap.size + 1 + 1 + 1, 0, none⟩) (by (show _ < W.heap.size; dsimp only; omega))).trans (by exact f0); have d1 := (hb.cell (p := ⟨w.heap.size + 1 + 1, 0, none⟩) (by (show _ < W.heap.size; dsimp only; omega))).trans (by exact c1); have d2 := (hb.cell (p := ⟨w.heap.size + 1 + 1, 1, none⟩) (by (show _ < W.heap.size; dsimp only; omega))).trans (by exact c2); have hs1 := hb.size)
    all_goals gi_wp2
    all_goals (try go_bits)
    all_goals have hb' : Below W.heap.size W w1 := ((Below.refl _ W).drew).trans hb
    all_goals have hs2 := hb'.size
    all_goals exact ⟨(KeepsFrom.of_grownBy (grown_of_below hb') (fun j e => by cases e)).trans ((KeepsOthers.setCell _ _ _).from _), (KpF.of_below (by omega) (by omega) (by omega) hb').t ⟨(Below.refl _ _).setCell (p := ⟨w.heap.size + 1 + 1 + 1, 0, none⟩) (by dsimp only; omega) _, fun b o hbb => World.cell?_setCell_other _ _ _ _ (by intro e; injection e with e1 e2; omega)⟩, ⟨⟨by rw [HX.out]; exact World.cell?_setCell_same' _ _ _ (by rw [d0]; rfl), by rw [World.frozen?_setCell]; exact g0⟩, by rw [World.cell?_setCell_other _ _ _ _ (by intro e; injection e with e1 e2; omega)]; exact d1, by rw [World.cell?_setCell_other _ _ _ _ (by intro e; injection e with e1 e2; omega)]; exact d2⟩, (hB.trans (hb'.mono hB.size)).setCell (p := ⟨w.heap.size + 1 + 1 + 1, 0, none⟩) (by dsimp only; omega) _, by rw [World.size_setCell]; omega⟩
  case done =>
    rintro E ys W hD rfl ⟨⟨⟨c0, _⟩, _⟩, hB, _⟩ hK
    gi_wp2
    refine ⟨by simp, .inl ⟨_, _, rfl, run_takeDeferred hK, ?_⟩⟩
    exact ⟨_, results_tmp rfl _ _ _, (by rw [hS]; rfl), hB.trans (belowK_b (w := w) (Nat.le_refl _) W E _ _ (by omega) hK rfl rfl)⟩
  case stop =>
    rintro E c pre W _ _ h _
    exact h.elim
end
section
open Go.RowKit Go.Shelf
attribute [local go_sem] Oper.semAt_some
end
section
set_option autoImplicit false
open Go.RowKit
abbrev Slots := List (Nat × Value)
def look : Slots → Nat → Option Value
  | [], _ => none
  | (j, v) :: l, t => bif Nat.beq j t then some v else look l t
structure Cfg where
  (n : Nat) (D : List Deferred) (w : World) (lent : List Nat)
structure Fr (E : Cfg) (l : Slots) (a : Act) : Prop where
  size : a.tmps.size = E.n
  defers : a.defers = E.D
  slot : ∀ t v, look l t = some v → a.tmps[t]? = some v
def E (l : Slots) : Operand → Option Value
  | .tmp t => look l t
  | .const v => some v
  | .global g => some (.pointer (some ⟨g, 0, none⟩))
  | .func f => some (.func (.func f) #[] #[])
theorem look_cons {j t : Nat} {v : Value} {l : Slots} : look ((j, v) :: l) t = if j = t then some v else look l t := by
  show (bif Nat.beq j t then some v else look l t) = _
  by_cases h : j = t
  · subst h; simp
  · have : Nat.beq j t = false := by rw [Bool.eq_false_iff]; simpa using h
    rw [this, if_neg h]; rfl
theorem Fr.ev {e0 : Cfg} {l : Slots} {a : Act} (h : Fr e0 l a) {x : Operand} {v : Value} (e : E l x = some v) : a.eval x = v := by
  cases x with
  | tmp t =>
    have := h.slot t v e
    show a.tmps.getD t undef = v
    simp [Array.getD_eq_getD_getElem?, this]
  | const c => exact Option.some.inj e
  | global g => exact Option.some.inj e
  | func f => exact Option.some.inj e
theorem Fr.put {e0 : Cfg} {l : Slots} {a : Act} (h : Fr e0 l a) {d : Nat} (hd : Nat.blt d e0.n = true) (v : Value) : Fr e0 ((d, v) :: l) (a.put (some d) v) := by
  have hd' : d < e0.n := by simpa [Nat.blt_eq] using hd
  refine ⟨by simp [Act.put, h.size], h.defers, fun t u e => ?_⟩
  rw [look_cons] at e
  show (a.tmps.setIfInBounds d v)[t]? = some u
  rw [Array.getElem?_setIfInBounds]
  split at e
  · rename_i hdt; subst hdt; rw [if_pos rfl, if_pos (by rw [h.size]; exact hd')]; exact e
  · rename_i hdt; rw [if_neg hdt]; exact h.slot t u e
theorem Fr.sub {e0 : Cfg} {l l' : Slots} {a : Act} (h : Fr e0 l a) (hs : ∀ t v, look l' t = some v → look l t = some v) : Fr e0 l' a := ⟨h.size, h.defers, fun t v e => h.slot t v (hs t v e)⟩
def AllLook (l : Slots) : Slots → Prop
  | [] => True
  | (t, v) :: r => look l t = some v ∧ AllLook l r
theorem AllLook.sub {l : Slots} : ∀ {r : Slots}, AllLook l r → ∀ t v, look r t = some v → look l t = some v
  | [], _, t, v, e => by cases e
  | (j, u) :: r, h, t, v, e => by
    rw [look_cons] at e
    split at e
    · rename_i hj; subst hj; rw [← Option.some.inj e]; exact h.1
    · exact AllLook.sub h.2 t v e
def num : Nat → List Value → Slots
  | _, [] => []
  | k, v :: r => (k, v) :: num (k + 1) r
theorem look_num : ∀ (vs : List Value) (k t : Nat) (v : Value), look (num k vs) t = some v → k ≤ t ∧ vs[t - k]? = some v
  | [], k, t, v, h => by cases h
  | u :: r, k, t, v, h => by
    simp only [num] at h
    rw [look_cons] at h
    split at h
    · rename_i hk; subst hk; simp [Option.some.inj h]
    · rename_i hk
      obtain ⟨h1, h2⟩ := look_num r (k + 1) t v h
      refine ⟨by omega, ?_⟩
      have : t - k = (t - (k + 1)) + 1 := by omega
      rw [this]; simpa using h2
theorem Fr.start (n : Nat) (w : World) (lent : List Nat) (vs : List Value) (hn : Nat.ble vs.length n = true) : Fr ⟨n, [], w, lent⟩ (num 0 vs) { tmps := vs.toArray ++ Array.replicate (n - vs.toArray.size) undef, defers := [] } := by
  have hn' : vs.length ≤ n := by simpa using hn
  refine ⟨by simp; omega, rfl, fun t v h => ?_⟩
  obtain ⟨-, h2⟩ := look_num vs 0 t v h
  simp only [Nat.sub_zero] at h2
  have hl : t < vs.length := by
    rcases Nat.lt_or_ge t vs.length with h | h
    · exact h
    · rw [List.getElem?_eq_none h] at h2; cases h2
  show (vs.toArray ++ _)[t]? = some v
  rw [Array.getElem?_append_left (by simpa using hl)]
  simpa using h2
inductive Cont where
  | cells (cs : List Value)
  | map (es : List MapEntry) (clock : Nat)
abbrev Boxes := List (Nat × Cont)
abbrev Snaps := List (Nat × World)
structure Chg (bs : List Nat) (w w' : World) : Prop where
  os : w'.os = w.os
  tape : w'.tape = w.tape
  output : w'.output = w.output
  size : w.heap.size ≤ w'.heap.size
  block : ∀ k, k < w.heap.size → k ∉ bs → w'.heap[k]? = w.heap[k]?
theorem Chg.refl (bs : List Nat) (w : World) : Chg bs w w := ⟨rfl, rfl, rfl, Nat.le_refl _, fun _ _ _ => rfl⟩
theorem Chg.of_below {w w' : World} (bs : List Nat) (h : Below w.heap.size w w') : Chg bs w w' := ⟨h.os, h.tape, h.output, h.size, fun k hk _ => h.block k hk⟩
theorem Chg.below {w w' : World} (h : Chg [] w w') : Below w.heap.size w w' := ⟨h.os, h.tape, h.output, h.size, fun k hk => h.block k hk (by simp)⟩
structure BoxAt (w : World) (b : Nat) (c : Cont) : Prop where
  lt : b < w.heap.size
  cell : ∀ cs, c = .cells cs → ∀ k v, cs[k]? = some v → w.cell? ⟨b, k, none⟩ = some v ∧ w.frozen? ⟨b, k, none⟩ = false
  map : ∀ es k, c = .map es k → w.heap[b]? = some (.map es.toArray k)
theorem BoxAt.same {w w' : World} {b : Nat} {c : Cont} (h : BoxAt w b c) (hb : w'.heap[b]? = w.heap[b]?) (hz : w.heap.size ≤ w'.heap.size) : BoxAt w' b c :=
  ⟨Nat.lt_of_lt_of_le h.lt hz, fun cs hc k v hk => by
    obtain ⟨h1, h2⟩ := h.cell cs hc k v hk
    exact ⟨(World.cell?_of_block (w := w) (w' := w') (a := ⟨b, k, none⟩) hb).trans h1, (World.frozen?_of_block (w := w) (w' := w') (a := ⟨b, k, none⟩) hb).trans h2⟩, fun es k hc => hb.trans (h.map es k hc)⟩
structure Sta (E : Cfg) (U : Snaps) (L : Boxes) (w : World) : Prop where
  chg : Chg E.lent E.w w
  box : ∀ (i b : Nat) (cs : Cont), L[i]? = some (b, cs) → (E.w.heap.size ≤ b ∨ b ∈ E.lent) ∧ BoxAt w b cs
  apart : ∀ (i j b : Nat) (cs cs' : Cont), L[i]? = some (b, cs) → L[j]? = some (b, cs') → i = j
  snap : ∀ lo u, (lo, u) ∈ U → E.w.heap.size ≤ lo ∧ lo ≤ u.heap.size ∧ u.heap.size ≤ w.heap.size ∧ (∀ k, lo ≤ k → k < u.heap.size → w.heap[k]? = u.heap[k]?) ∧ (∀ k, k < E.w.heap.size → k ∉ E.lent → u.heap[k]? = E.w.heap[k]?) ∧ ∀ (i b : Nat) (cs : Cont), L[i]? = some (b, cs) → b < lo ∨ u.heap.size ≤ b
theorem Sta.below {n : Nat} {D : List Deferred} {w0 : World} {U : Snaps} {L : Boxes} {w : World} (h : Sta ⟨n, D, w0, []⟩ U L w) : Below w0.heap.size w0 w := h.chg.below
theorem Sta.start (n : Nat) (D : List Deferred) (w : World) : Sta ⟨n, D, w, []⟩ [] [] w := ⟨Chg.refl _ _, fun i b cs h => (by cases h), fun i j b cs cs' h => (by cases h), fun lo u h => (by cases h)⟩
theorem Sta.defer {n : Nat} {D D' : List Deferred} {w0 : World} {bs : List Nat} {U : Snaps} {L : Boxes} {w : World} (h : Sta ⟨n, D, w0, bs⟩ U L w) (m : Nat) : Sta ⟨m, D', w0, bs⟩ U L w := ⟨h.chg, h.box, h.apart, h.snap⟩
section
variable {E : Cfg} {U : Snaps} {L : Boxes} {w : World}
theorem Sta.ext {w' : World} (h : Sta E U L w) (hb : Below w.heap.size w w') : Sta E U L w' := by
  have hz := h.chg.size
  refine ⟨⟨hb.os.trans h.chg.os, hb.tape.trans h.chg.tape, hb.output.trans h.chg.output, Nat.le_trans hz hb.size, fun k hk hn => (hb.block k (Nat.lt_of_lt_of_le hk hz)).trans (h.chg.block k hk hn)⟩, fun i b cs hi => ?_, h.apart, fun lo u hu => ?_⟩
  · obtain ⟨h1, h2⟩ := h.box i b cs hi
    exact ⟨h1, h2.same (hb.block b h2.lt) hb.size⟩
  · obtain ⟨h0, h1, h2, h3, h5, h4⟩ := h.snap lo u hu
    exact ⟨h0, h1, Nat.le_trans h2 hb.size, fun k hl hk => (hb.block k (Nat.lt_of_lt_of_le hk h2)).trans (h3 k hl hk), h5, h4⟩
theorem Sta.drew (h : Sta E U L w) : Sta E U L w.drew := h.ext (Below.refl _ _).drew
theorem Sta.call {w' : World} (h : Sta E U L w) (hb : Below w.heap.size w w') : Sta E ((w.heap.size, w') :: U) L w' := by
  have h' := h.ext hb
  refine ⟨h'.chg, h'.box, h'.apart, fun lo u hu => ?_⟩
  cases hu with
  | head => exact ⟨h.chg.size, hb.size, Nat.le_refl _, fun k _ hk => rfl, h'.chg.block, fun i b cs hi => Or.inl (h.box i b cs hi).2.lt⟩
  | tail _ hu => exact h'.snap lo u hu
theorem BoxAt.new (w : World) (cs : List Value) (t : TypeId) : BoxAt (w.alloc (.cells cs.toArray t)) w.heap.size (.cells cs) := by
  refine ⟨by simp, fun ds hd k v hk => ?_, fun es k hc => by cases hc⟩
  cases hd
  refine ⟨?_, ?_⟩
  · rw [World.cell?_alloc_new]; simpa using hk
  · simp
theorem getElem?_set_some {α : Type} {l : List α} {i j : Nat} {x y z : α} (hi : l[i]? = some x) (h : (l.set i y)[j]? = some z) : (i = j ∧ z = y) ∨ (i ≠ j ∧ l[j]? = some z) := by
  have hlt : i < l.length := by
    rcases Nat.lt_or_ge i l.length with h | h
    · exact h
    · rw [List.getElem?_eq_none h] at hi; cases hi
  rw [List.getElem?_set] at h
  split at h
  · rename_i hij; subst hij; first | exact Or.inl ⟨rfl, (Option.some.inj h).symm⟩ | (rw [if_pos hlt] at h; exact Or.inl ⟨rfl, (Option.some.inj h).symm⟩)
  · rename_i hij; exact Or.inr ⟨hij, h⟩
theorem Sta.adopt {w' : World} {b : Nat} {cs : Cont} (h : Sta E U L w) (hb : Below w.heap.size w w') (hlo : w.heap.size ≤ b) (hbox : BoxAt w' b cs) : Sta E U ((b, cs) :: L) w' := by
  have h' := h.ext hb
  have hz := h.chg.size
  refine ⟨h'.chg, fun i c ds hi => ?_, fun i j c ds ds' hi hj => ?_, fun lo u hu => ?_⟩
  · cases i with
    | zero =>
      simp only [List.getElem?_cons_zero, Option.some.injEq, Prod.mk.injEq] at hi
      obtain ⟨rfl, rfl⟩ := hi
      exact ⟨Or.inl (Nat.le_trans hz hlo), hbox⟩
    | succ i => exact h'.box i c ds (by simpa using hi)
  · cases i with
    | zero =>
      cases j with
      | zero => rfl
      | succ j =>
        simp only [List.getElem?_cons_zero, Option.some.injEq, Prod.mk.injEq] at hi
        have := (h.box j c ds' (by simpa using hj)).2.lt
        omega
    | succ i =>
      cases j with
      | zero =>
        simp only [List.getElem?_cons_zero, Option.some.injEq, Prod.mk.injEq] at hj
        have := (h.box i c ds (by simpa using hi)).2.lt
        omega
      | succ j => rw [h.apart i j c ds ds' (by simpa using hi) (by simpa using hj)]
  · obtain ⟨h0, h1, h2, h3, h5, h4⟩ := h'.snap lo u hu
    obtain ⟨-, -, g2, -⟩ := h.snap lo u hu
    refine ⟨h0, h1, h2, h3, h5, fun i c ds hi => ?_⟩
    cases i with
    | zero =>
      simp only [List.getElem?_cons_zero, Option.some.injEq, Prod.mk.injEq] at hi
      exact Or.inr (by omega)
    | succ i => exact h4 i c ds (by simpa using hi)
theorem Sta.alloc (h : Sta E U L w) (cs : List Value) (t : TypeId) : Sta E U ((w.heap.size, .cells cs) :: L) (w.alloc (.cells cs.toArray t)) :=
  h.adopt ((Below.refl _ _).alloc (Nat.le_refl _) _) (Nat.le_refl _) (BoxAt.new w cs t)
theorem Sta.renew {w' : World} {i b b' : Nat} {cs cs' : Cont} (h : Sta E U L w) (hi : L[i]? = some (b, cs)) (hb : Below w.heap.size w w') (hlo : w.heap.size ≤ b') (hbox : BoxAt w' b' cs') : Sta E U (L.set i (b', cs')) w' := by
  have h' := h.ext hb
  have hz := h.chg.size
  refine ⟨h'.chg, fun j c ds hj => ?_, fun j j' c ds ds' hj hj' => ?_, fun lo u hu => ?_⟩
  · rcases getElem?_set_some hi hj with ⟨rfl, e⟩ | ⟨hne, e⟩
    · cases e; exact ⟨Or.inl (Nat.le_trans hz hlo), hbox⟩
    · exact h'.box j c ds e
  · rcases getElem?_set_some hi hj with ⟨rfl, e⟩ | ⟨hne, e⟩
    · cases e
      rcases getElem?_set_some hi hj' with ⟨rfl, e'⟩ | ⟨hne', e'⟩
      · rfl
      · have := (h.box j' _ ds' e').2.lt; omega
    · rcases getElem?_set_some hi hj' with ⟨rfl, e'⟩ | ⟨hne', e'⟩
      · cases e'; have := (h.box j _ ds e).2.lt; omega
      · exact h.apart j j' c ds ds' e e'
  · obtain ⟨h0, h1, h2, h3, h5, h4⟩ := h'.snap lo u hu
    obtain ⟨-, -, g2, -⟩ := h.snap lo u hu
    refine ⟨h0, h1, h2, h3, h5, fun j c ds hj => ?_⟩
    rcases getElem?_set_some hi hj with ⟨rfl, e⟩ | ⟨hne, e⟩
    · cases e; exact Or.inr (by omega)
    · exact h4 j c ds e
theorem Sta.change {w' : World} {i b : Nat} {cs cs' : Cont} (h : Sta E U L w) (hi : L[i]? = some (b, cs)) (hc : Chg [b] w w') (hbox : BoxAt w' b cs') : Sta E U (L.set i (b, cs')) w' := by
  have hz := h.chg.size
  obtain ⟨g1, g2⟩ := h.box i b cs hi
  have hsame : ∀ j c ds, (L.set i (b, cs'))[j]? = some (c, ds) → ∃ ds', L[j]? = some (c, ds') := fun j c ds hj => by
    rcases getElem?_set_some hi hj with ⟨rfl, e⟩ | ⟨_, e⟩
    · cases e; exact ⟨cs, hi⟩
    · exact ⟨ds, e⟩
  refine ⟨⟨hc.os.trans h.chg.os, hc.tape.trans h.chg.tape, hc.output.trans h.chg.output, Nat.le_trans hz hc.size, fun k hk hn => ?_⟩, fun j c ds hj => ?_, fun j j' c ds ds' hj hj' => ?_, fun lo u hu => ?_⟩
  · rw [hc.block k (Nat.lt_of_lt_of_le hk hz) (by
      intro hk'
      obtain rfl : k = b := by simpa using hk'
      rcases g1 with g | g
      · omega
      · exact hn g)]
    exact h.chg.block k hk hn
  · rcases getElem?_set_some hi hj with ⟨rfl, e⟩ | ⟨hne, e⟩
    · cases e; exact ⟨g1, hbox⟩
    · obtain ⟨f1, f2⟩ := h.box j c ds e
      have hbc : b ≠ c := fun hbc => hne (by subst hbc; exact h.apart i j b cs ds hi e)
      exact ⟨f1, f2.same (hc.block c f2.lt (by simpa using fun e => hbc e.symm)) hc.size⟩
  · obtain ⟨e, he⟩ := hsame j c ds hj
    obtain ⟨e', he'⟩ := hsame j' c ds' hj'
    exact h.apart j j' c e e' he he'
  · obtain ⟨f0, f1, f2, f3, f5, f4⟩ := h.snap lo u hu
    refine ⟨f0, f1, Nat.le_trans f2 hc.size, fun m hl hm => ?_, f5, fun j c ds hj => ?_⟩
    · rw [hc.block m (Nat.lt_of_lt_of_le hm f2) (by
        have := f4 i b cs hi
        simp only [List.mem_singleton]; omega)]
      exact f3 m hl hm
    · obtain ⟨e, he⟩ := hsame j c ds hj
      exact f4 j c e he
theorem BoxAt.store {b k : Nat} {cs : List Value} (h : BoxAt w b (.cells cs)) (hk : k < cs.length) (v : Value) : BoxAt (w.setCell ⟨b, k, none⟩ v) b (.cells (cs.set k v)) := by
  refine ⟨by simpa using h.lt, fun ds hd m x hm => ?_, fun es k hc => by cases hc⟩
  cases hd
  rcases getElem?_set_some (List.getElem?_eq_getElem hk) hm with ⟨rfl, rfl⟩ | ⟨hkm, hm⟩
  · obtain ⟨g4, g5⟩ := h.cell cs rfl k _ (List.getElem?_eq_getElem hk)
    exact ⟨World.cell?_setCell_same _ _ _ g4, by simpa using g5⟩
  · obtain ⟨g4, g5⟩ := h.cell cs rfl m x hm
    exact ⟨by rw [World.cell?_setCell_other _ _ _ _ (by intro e; injection e; exact hkm (by assumption))]; exact g4, by simpa using g5⟩
theorem Sta.store (h : Sta E U L w) {i b : Nat} {cs : List Value} (hi : L[i]? = some (b, .cells cs)) (k : Nat) (hk : k < cs.length) (v : Value) : Sta E U (L.set i (b, .cells (cs.set k v))) (w.setCell ⟨b, k, none⟩ v) :=
  h.change hi ⟨rfl, rfl, rfl, by simp, fun m _ hm => Below.heap_setCell _ _ _ _ (by simpa using hm)⟩ ((h.box i b _ hi).2.store hk v)
theorem Sta.cell (h : Sta E U L w) {i b : Nat} {cs : List Value} (hi : L[i]? = some (b, .cells cs)) {k : Nat} {v : Value} (hk : cs[k]? = some v) : w.cell? ⟨b, k, none⟩ = some v := ((h.box i b _ hi).2.cell cs rfl k v hk).1
theorem Sta.free (h : Sta E U L w) {i b : Nat} {cs : List Value} (hi : L[i]? = some (b, .cells cs)) {k : Nat} {v : Value} (hk : cs[k]? = some v) : w.frozen? ⟨b, k, none⟩ = false := ((h.box i b _ hi).2.cell cs rfl k v hk).2
theorem Sta.map (h : Sta E U L w) {i b k : Nat} {es : List MapEntry} (hi : L[i]? = some (b, .map es k)) : w.heap[b]? = some (.map es.toArray k) := (h.box i b _ hi).2.map es k rfl
theorem Sta.old (h : Sta E U L w) {lo : Nat} {u : World} (hu : (lo, u) ∈ U) {k : Nat} (hk : lo ≤ k ∧ k < u.heap.size ∨ k < E.w.heap.size ∧ k ∉ E.lent) : w.heap[k]? = u.heap[k]? := by
  obtain ⟨f0, f1, f2, f3, f5, f4⟩ := h.snap lo u hu
  rcases hk with ⟨h1, h2⟩ | ⟨h1, h2⟩
  · exact f3 k h1 h2
  · rw [f5 k h1 h2]; exact h.chg.block k h1 h2
theorem Sta.tail (h : Sta E U L w) (m : Nat) {M : Boxes} (hM : L.drop m = M) : Sta E U M w := by
  subst hM
  have up : ∀ (i b : Nat) (cs : Cont), (L.drop m)[i]? = some (b, cs) → L[m + i]? = some (b, cs) := fun i b cs hi => by
    rwa [List.getElem?_drop] at hi
  refine ⟨h.chg, fun i b cs hi => h.box _ b cs (up i b cs hi), fun i j b cs cs' hi hj => ?_, fun lo u hu => ?_⟩
  · have := h.apart _ _ b cs cs' (up i b cs hi) (up j b cs' hj); omega
  · obtain ⟨f0, f1, f2, f3, f5, f4⟩ := h.snap lo u hu
    exact ⟨f0, f1, f2, f3, f5, fun i b cs hi => f4 _ b cs (up i b cs hi)⟩
theorem Sta.fewer (h : Sta E U L w) (k : Nat) {V : Snaps} (hV : U.drop k = V) : Sta E V L w :=
  ⟨h.chg, h.box, h.apart, fun lo u hu => h.snap lo u (by subst hV; exact List.mem_of_mem_drop hu)⟩
end
end
end Go.Proofs.YtogcjgjhmlifgaaGreat
