import Derived.Test.YtjjajleiladbhaaGreatDoorLAI
import Derived.Test.YtjjajleiladbhaaGreatDoorLAJ
import Derived.Test.YtjjajleiladbhaaGreatDoorLAK
section
/- Package machine: fluxAt over any machine, over this seat's translation (written by mk_flux2.py). -/
namespace Go.Proofs.YtjjajleiladbhaaGreatDoor
set_option linter.unusedVariables false
set_option linter.unusedSimpArgs false
open Go.RowKit Go.Shelf
attribute [local go_sem] Oper.semAt_some

set_option maxRecDepth 100000 in
set_option maxHeartbeats 16000000 in
theorem fluxAt_any0 (name : ByteArray) (A B Cl D : Option Addr) (la ca lb cb lc cl ld cd : Nat) (g : GridD) (hg : g.Fine) (A1 B1 C : Option Addr) (na qa nb qb len cap : Nat) (cs : List CoilD) (ss : List ShellD) (z1 z2 z3 : List Int) (p0 p1 : Int) (w : World)
    (hA : IsT 8 CoilD.cells w A la cs) (hBb : IsT 4 ShellD.cells w B lb ss) (hA1 : IsT 1 intCells w A1 na z1) (hB1 : IsT 1 intCells w B1 nb z2) (hI : IsT 1 intCells w C len z3) (h1 : z1.length = cs.length) (h2 : z2.length = ss.length) (hl : len ≤ 1000) (kla : la ≤ 1000) (klb : lb ≤ 1000)
    (hmul : ∀ (k : Nat) c x, cs[k]? = some c → z1[k]? = some x → IntKind.i64.wrap (c.turns * x) = c.turns * x) :
    Calls Tryz.prog 84 #[.agg #[.string name, .slice A la ca, .slice B lb cb, .slice Cl lc cl, .int .i64 g.r, .int .i64 g.z, .int .i64 g.nr, .int .i64 g.nz, .int .i64 g.step, .slice D ld cd], .agg #[.slice A1 na qa, .slice B1 nb qb, .slice C len cap], .agg #[.int .i64 p0, .int .i64 p1]] w
      (Ret (.int .i64 (fluxW (p0, p1) 0 (srcL g cs ss z1 z2 z3))) w) := by
  refine (callsIn_wide (n := 8)).1 ?_
  have h87 : Fence.wide.fn 106 := trivial
  have h88 : Fence.wide.fn 30 := trivial
  have hP := fun (pre : List Src) (x : Src) => fluxW_snoc (p0, p1) 0 pre x
  have HP := Lib.hid hP
  clear hP
  refine callsIn_of_wp_marks Tryz.func84 rfl trivial ?_ rfl
  simp only [Tryz.ntmps84, List.size_toArray, List.length_cons, List.length_nil, Nat.reduceAdd, Nat.reduceSub, Array.replicate_succ, Array.replicate_zero, List.push_toArray, List.append_toArray, List.nil_append, List.cons_append]
  gi_wp2_with (gi_at_call 106; refine (sources_in _ _ _ _).mono ?_; rintro e w' ⟨rfl, rfl⟩)
  have hB0 : Below w.heap.size w ((((((w.alloc (.cells #[.string name, .slice A la ca, .slice B lb cb, .slice Cl lc cl, .int .i64 g.r, .int .i64 g.z, .int .i64 g.nr, .int .i64 g.nz, .int .i64 g.step, .slice D ld cd] 29)).alloc (.cells #[.slice A1 na qa, .slice B1 nb qb, .slice C len cap] 34)).alloc (.cells #[.int .i64 p0, .int .i64 p1] 40)).alloc (.cells #[.int .i64 0] 3)).alloc (.cells #[.string name, .slice A la ca, .slice B lb cb, .slice Cl lc cl, .int .i64 g.r, .int .i64 g.z, .int .i64 g.nr, .int .i64 g.nz, .int .i64 g.step, .slice D ld cd] 29)).alloc (.cells #[.slice A1 na qa, .slice B1 nb qb, .slice C len cap] 34)) := by (with_reducible repeat first | exact Below.refl _ _ | assumption | ((first | refine Below.setCell ?_ ?_ _ | refine Below.alloc ?_ ?_ _); rotate_left; exact (by first | omega | (simp; done) | (simp; omega))) | refine Below.drew ?_ | refine Below_drewN ?_ _)
  have hsz : ((((((w.alloc (.cells #[.string name, .slice A la ca, .slice B lb cb, .slice Cl lc cl, .int .i64 g.r, .int .i64 g.z, .int .i64 g.nr, .int .i64 g.nz, .int .i64 g.step, .slice D ld cd] 29)).alloc (.cells #[.slice A1 na qa, .slice B1 nb qb, .slice C len cap] 34)).alloc (.cells #[.int .i64 p0, .int .i64 p1] 40)).alloc (.cells #[.int .i64 0] 3)).alloc (.cells #[.string name, .slice A la ca, .slice B lb cb, .slice Cl lc cl, .int .i64 g.r, .int .i64 g.z, .int .i64 g.nr, .int .i64 g.nz, .int .i64 g.step, .slice D ld cd] 29)).alloc (.cells #[.slice A1 na qa, .slice B1 nb qb, .slice C len cap] 34)).heap.size = w.heap.size + 1 + 1 + 1 + 1 + 1 + 1 := by simp
  have s0 : ((((((w.alloc (.cells #[.string name, .slice A la ca, .slice B lb cb, .slice Cl lc cl, .int .i64 g.r, .int .i64 g.z, .int .i64 g.nr, .int .i64 g.nz, .int .i64 g.step, .slice D ld cd] 29)).alloc (.cells #[.slice A1 na qa, .slice B1 nb qb, .slice C len cap] 34)).alloc (.cells #[.int .i64 p0, .int .i64 p1] 40)).alloc (.cells #[.int .i64 0] 3)).alloc (.cells #[.string name, .slice A la ca, .slice B lb cb, .slice Cl lc cl, .int .i64 g.r, .int .i64 g.z, .int .i64 g.nr, .int .i64 g.nz, .int .i64 g.step, .slice D ld cd] 29)).alloc (.cells #[.slice A1 na qa, .slice B1 nb qb, .slice C len cap] 34)).cell? ⟨w.heap.size + 1 + 1 + 1, 0, none⟩ = some (.int .i64 0) := by go_simp
  have sf : ((((((w.alloc (.cells #[.string name, .slice A la ca, .slice B lb cb, .slice Cl lc cl, .int .i64 g.r, .int .i64 g.z, .int .i64 g.nr, .int .i64 g.nz, .int .i64 g.step, .slice D ld cd] 29)).alloc (.cells #[.slice A1 na qa, .slice B1 nb qb, .slice C len cap] 34)).alloc (.cells #[.int .i64 p0, .int .i64 p1] 40)).alloc (.cells #[.int .i64 0] 3)).alloc (.cells #[.string name, .slice A la ca, .slice B lb cb, .slice Cl lc cl, .int .i64 g.r, .int .i64 g.z, .int .i64 g.nr, .int .i64 g.nz, .int .i64 g.step, .slice D ld cd] 29)).alloc (.cells #[.slice A1 na qa, .slice B1 nb qb, .slice C len cap] 34)).frozen? ⟨w.heap.size + 1 + 1 + 1, 0, none⟩ = false := by go_simp
  have q0 : ((((((w.alloc (.cells #[.string name, .slice A la ca, .slice B lb cb, .slice Cl lc cl, .int .i64 g.r, .int .i64 g.z, .int .i64 g.nr, .int .i64 g.nz, .int .i64 g.step, .slice D ld cd] 29)).alloc (.cells #[.slice A1 na qa, .slice B1 nb qb, .slice C len cap] 34)).alloc (.cells #[.int .i64 p0, .int .i64 p1] 40)).alloc (.cells #[.int .i64 0] 3)).alloc (.cells #[.string name, .slice A la ca, .slice B lb cb, .slice Cl lc cl, .int .i64 g.r, .int .i64 g.z, .int .i64 g.nr, .int .i64 g.nz, .int .i64 g.step, .slice D ld cd] 29)).alloc (.cells #[.slice A1 na qa, .slice B1 nb qb, .slice C len cap] 34)).cell? ⟨w.heap.size + 1 + 1, 0, none⟩ = some (.int .i64 p0) := by go_simp
  have q1 : ((((((w.alloc (.cells #[.string name, .slice A la ca, .slice B lb cb, .slice Cl lc cl, .int .i64 g.r, .int .i64 g.z, .int .i64 g.nr, .int .i64 g.nz, .int .i64 g.step, .slice D ld cd] 29)).alloc (.cells #[.slice A1 na qa, .slice B1 nb qb, .slice C len cap] 34)).alloc (.cells #[.int .i64 p0, .int .i64 p1] 40)).alloc (.cells #[.int .i64 0] 3)).alloc (.cells #[.string name, .slice A la ca, .slice B lb cb, .slice Cl lc cl, .int .i64 g.r, .int .i64 g.z, .int .i64 g.nr, .int .i64 g.nz, .int .i64 g.step, .slice D ld cd] 29)).alloc (.cells #[.slice A1 na qa, .slice B1 nb qb, .slice C len cap] 34)).cell? ⟨w.heap.size + 1 + 1, 1, none⟩ = some (.int .i64 p1) := by go_simp
  have m1 : ((((((w.alloc (.cells #[.string name, .slice A la ca, .slice B lb cb, .slice Cl lc cl, .int .i64 g.r, .int .i64 g.z, .int .i64 g.nr, .int .i64 g.nz, .int .i64 g.step, .slice D ld cd] 29)).alloc (.cells #[.slice A1 na qa, .slice B1 nb qb, .slice C len cap] 34)).alloc (.cells #[.int .i64 p0, .int .i64 p1] 40)).alloc (.cells #[.int .i64 0] 3)).alloc (.cells #[.string name, .slice A la ca, .slice B lb cb, .slice Cl lc cl, .int .i64 g.r, .int .i64 g.z, .int .i64 g.nr, .int .i64 g.nz, .int .i64 g.step, .slice D ld cd] 29)).alloc (.cells #[.slice A1 na qa, .slice B1 nb qb, .slice C len cap] 34)).cell? ⟨w.heap.size + 1 + 1 + 1 + 1, 1, none⟩ = some (.slice A la ca) := by go_simp
  have m2 : ((((((w.alloc (.cells #[.string name, .slice A la ca, .slice B lb cb, .slice Cl lc cl, .int .i64 g.r, .int .i64 g.z, .int .i64 g.nr, .int .i64 g.nz, .int .i64 g.step, .slice D ld cd] 29)).alloc (.cells #[.slice A1 na qa, .slice B1 nb qb, .slice C len cap] 34)).alloc (.cells #[.int .i64 p0, .int .i64 p1] 40)).alloc (.cells #[.int .i64 0] 3)).alloc (.cells #[.string name, .slice A la ca, .slice B lb cb, .slice Cl lc cl, .int .i64 g.r, .int .i64 g.z, .int .i64 g.nr, .int .i64 g.nz, .int .i64 g.step, .slice D ld cd] 29)).alloc (.cells #[.slice A1 na qa, .slice B1 nb qb, .slice C len cap] 34)).cell? ⟨w.heap.size + 1 + 1 + 1 + 1, 2, none⟩ = some (.slice B lb cb) := by go_simp
  have m4 : ((((((w.alloc (.cells #[.string name, .slice A la ca, .slice B lb cb, .slice Cl lc cl, .int .i64 g.r, .int .i64 g.z, .int .i64 g.nr, .int .i64 g.nz, .int .i64 g.step, .slice D ld cd] 29)).alloc (.cells #[.slice A1 na qa, .slice B1 nb qb, .slice C len cap] 34)).alloc (.cells #[.int .i64 p0, .int .i64 p1] 40)).alloc (.cells #[.int .i64 0] 3)).alloc (.cells #[.string name, .slice A la ca, .slice B lb cb, .slice Cl lc cl, .int .i64 g.r, .int .i64 g.z, .int .i64 g.nr, .int .i64 g.nz, .int .i64 g.step, .slice D ld cd] 29)).alloc (.cells #[.slice A1 na qa, .slice B1 nb qb, .slice C len cap] 34)).cell? ⟨w.heap.size + 1 + 1 + 1 + 1, 4, none⟩ = some (.int .i64 g.r) := by go_simp
  have m5 : ((((((w.alloc (.cells #[.string name, .slice A la ca, .slice B lb cb, .slice Cl lc cl, .int .i64 g.r, .int .i64 g.z, .int .i64 g.nr, .int .i64 g.nz, .int .i64 g.step, .slice D ld cd] 29)).alloc (.cells #[.slice A1 na qa, .slice B1 nb qb, .slice C len cap] 34)).alloc (.cells #[.int .i64 p0, .int .i64 p1] 40)).alloc (.cells #[.int .i64 0] 3)).alloc (.cells #[.string name, .slice A la ca, .slice B lb cb, .slice Cl lc cl, .int .i64 g.r, .int .i64 g.z, .int .i64 g.nr, .int .i64 g.nz, .int .i64 g.step, .slice D ld cd] 29)).alloc (.cells #[.slice A1 na qa, .slice B1 nb qb, .slice C len cap] 34)).cell? ⟨w.heap.size + 1 + 1 + 1 + 1, 5, none⟩ = some (.int .i64 g.z) := by go_simp
  have m6 : ((((((w.alloc (.cells #[.string name, .slice A la ca, .slice B lb cb, .slice Cl lc cl, .int .i64 g.r, .int .i64 g.z, .int .i64 g.nr, .int .i64 g.nz, .int .i64 g.step, .slice D ld cd] 29)).alloc (.cells #[.slice A1 na qa, .slice B1 nb qb, .slice C len cap] 34)).alloc (.cells #[.int .i64 p0, .int .i64 p1] 40)).alloc (.cells #[.int .i64 0] 3)).alloc (.cells #[.string name, .slice A la ca, .slice B lb cb, .slice Cl lc cl, .int .i64 g.r, .int .i64 g.z, .int .i64 g.nr, .int .i64 g.nz, .int .i64 g.step, .slice D ld cd] 29)).alloc (.cells #[.slice A1 na qa, .slice B1 nb qb, .slice C len cap] 34)).cell? ⟨w.heap.size + 1 + 1 + 1 + 1, 6, none⟩ = some (.int .i64 g.nr) := by go_simp
  have m7 : ((((((w.alloc (.cells #[.string name, .slice A la ca, .slice B lb cb, .slice Cl lc cl, .int .i64 g.r, .int .i64 g.z, .int .i64 g.nr, .int .i64 g.nz, .int .i64 g.step, .slice D ld cd] 29)).alloc (.cells #[.slice A1 na qa, .slice B1 nb qb, .slice C len cap] 34)).alloc (.cells #[.int .i64 p0, .int .i64 p1] 40)).alloc (.cells #[.int .i64 0] 3)).alloc (.cells #[.string name, .slice A la ca, .slice B lb cb, .slice Cl lc cl, .int .i64 g.r, .int .i64 g.z, .int .i64 g.nr, .int .i64 g.nz, .int .i64 g.step, .slice D ld cd] 29)).alloc (.cells #[.slice A1 na qa, .slice B1 nb qb, .slice C len cap] 34)).cell? ⟨w.heap.size + 1 + 1 + 1 + 1, 7, none⟩ = some (.int .i64 g.nz) := by go_simp
  have m8 : ((((((w.alloc (.cells #[.string name, .slice A la ca, .slice B lb cb, .slice Cl lc cl, .int .i64 g.r, .int .i64 g.z, .int .i64 g.nr, .int .i64 g.nz, .int .i64 g.step, .slice D ld cd] 29)).alloc (.cells #[.slice A1 na qa, .slice B1 nb qb, .slice C len cap] 34)).alloc (.cells #[.int .i64 p0, .int .i64 p1] 40)).alloc (.cells #[.int .i64 0] 3)).alloc (.cells #[.string name, .slice A la ca, .slice B lb cb, .slice Cl lc cl, .int .i64 g.r, .int .i64 g.z, .int .i64 g.nr, .int .i64 g.nz, .int .i64 g.step, .slice D ld cd] 29)).alloc (.cells #[.slice A1 na qa, .slice B1 nb qb, .slice C len cap] 34)).cell? ⟨w.heap.size + 1 + 1 + 1 + 1, 8, none⟩ = some (.int .i64 g.step) := by go_simp
  have k0 : ((((((w.alloc (.cells #[.string name, .slice A la ca, .slice B lb cb, .slice Cl lc cl, .int .i64 g.r, .int .i64 g.z, .int .i64 g.nr, .int .i64 g.nz, .int .i64 g.step, .slice D ld cd] 29)).alloc (.cells #[.slice A1 na qa, .slice B1 nb qb, .slice C len cap] 34)).alloc (.cells #[.int .i64 p0, .int .i64 p1] 40)).alloc (.cells #[.int .i64 0] 3)).alloc (.cells #[.string name, .slice A la ca, .slice B lb cb, .slice Cl lc cl, .int .i64 g.r, .int .i64 g.z, .int .i64 g.nr, .int .i64 g.nz, .int .i64 g.step, .slice D ld cd] 29)).alloc (.cells #[.slice A1 na qa, .slice B1 nb qb, .slice C len cap] 34)).cell? ⟨w.heap.size + 1 + 1 + 1 + 1 + 1, 0, none⟩ = some (.slice A1 na qa) := by go_simp
  have k1 : ((((((w.alloc (.cells #[.string name, .slice A la ca, .slice B lb cb, .slice Cl lc cl, .int .i64 g.r, .int .i64 g.z, .int .i64 g.nr, .int .i64 g.nz, .int .i64 g.step, .slice D ld cd] 29)).alloc (.cells #[.slice A1 na qa, .slice B1 nb qb, .slice C len cap] 34)).alloc (.cells #[.int .i64 p0, .int .i64 p1] 40)).alloc (.cells #[.int .i64 0] 3)).alloc (.cells #[.string name, .slice A la ca, .slice B lb cb, .slice Cl lc cl, .int .i64 g.r, .int .i64 g.z, .int .i64 g.nr, .int .i64 g.nz, .int .i64 g.step, .slice D ld cd] 29)).alloc (.cells #[.slice A1 na qa, .slice B1 nb qb, .slice C len cap] 34)).cell? ⟨w.heap.size + 1 + 1 + 1 + 1 + 1, 1, none⟩ = some (.slice B1 nb qb) := by go_simp
  have k2 : ((((((w.alloc (.cells #[.string name, .slice A la ca, .slice B lb cb, .slice Cl lc cl, .int .i64 g.r, .int .i64 g.z, .int .i64 g.nr, .int .i64 g.nz, .int .i64 g.step, .slice D ld cd] 29)).alloc (.cells #[.slice A1 na qa, .slice B1 nb qb, .slice C len cap] 34)).alloc (.cells #[.int .i64 p0, .int .i64 p1] 40)).alloc (.cells #[.int .i64 0] 3)).alloc (.cells #[.string name, .slice A la ca, .slice B lb cb, .slice Cl lc cl, .int .i64 g.r, .int .i64 g.z, .int .i64 g.nr, .int .i64 g.nz, .int .i64 g.step, .slice D ld cd] 29)).alloc (.cells #[.slice A1 na qa, .slice B1 nb qb, .slice C len cap] 34)).cell? ⟨w.heap.size + 1 + 1 + 1 + 1 + 1, 2, none⟩ = some (.slice C len cap) := by go_simp
  obtain ⟨S, hS⟩ : ∃ S, srcL g cs ss z1 z2 z3 = S := ⟨_, rfl⟩
  rw [hS]
  obtain ⟨W0, hW0⟩ : ∃ W0, ((((((w.alloc (.cells #[.string name, .slice A la ca, .slice B lb cb, .slice Cl lc cl, .int .i64 g.r, .int .i64 g.z, .int .i64 g.nr, .int .i64 g.nz, .int .i64 g.step, .slice D ld cd] 29)).alloc (.cells #[.slice A1 na qa, .slice B1 nb qb, .slice C len cap] 34)).alloc (.cells #[.int .i64 p0, .int .i64 p1] 40)).alloc (.cells #[.int .i64 0] 3)).alloc (.cells #[.string name, .slice A la ca, .slice B lb cb, .slice Cl lc cl, .int .i64 g.r, .int .i64 g.z, .int .i64 g.nr, .int .i64 g.nz, .int .i64 g.step, .slice D ld cd] 29)).alloc (.cells #[.slice A1 na qa, .slice B1 nb qb, .slice C len cap] 34)) = W0 := ⟨_, rfl⟩
  rw [hW0] at hB0 hsz s0 sf q0 q1 m1 m2 m4 m5 m6 m7 m8 k0 k1 k2 ⊢
  clear hW0
  have hseq : SeqStopsK Fence.wide 7 Tryz.prog 130 #[.pointer (some ⟨w.heap.size + 1 + 1 + 1 + 1, 0, none⟩), .pointer (some ⟨w.heap.size + 1 + 1 + 1 + 1 + 1, 0, none⟩)] srcEnc (KpF w.heap.size (w.heap.size + 1 + 1 + 1 + 1) (w.heap.size + 1 + 1 + 1 + 1 + 1)) (fun ys => ys = S) (fun pre => ∃ k, k ≤ S.length ∧ pre = S.take k) S.length W0 := fun l J Jx W hW hJa _ hY h0 =>
    sources1_any 7 (by omega) l (w.heap.size + 1 + 1 + 1 + 1) (w.heap.size + 1 + 1 + 1 + 1 + 1) la ca lb cb na qa nb qb len cap A B A1 B1 C g hg cs ss z1 z2 z3 S h1 h2 hS.symm hl kla klb hmul J Jx w (fun pre X Y hj hb => hJa pre X Y none hj (grown_of_below hb) (fun r e => by cases e)) hY W hA hBb hA1 hB1 hI (hB0.trans (hW.mono (by omega)))
      (by have := hW.size; omega) (by have := hW.size; omega)
      ((hW.cell (p := ⟨_, _, none⟩) (by dsimp only; omega)).trans m1) ((hW.cell (p := ⟨_, _, none⟩) (by dsimp only; omega)).trans m2) ((hW.cell (p := ⟨_, _, none⟩) (by dsimp only; omega)).trans m4) ((hW.cell (p := ⟨_, _, none⟩) (by dsimp only; omega)).trans m5) ((hW.cell (p := ⟨_, _, none⟩) (by dsimp only; omega)).trans m6) ((hW.cell (p := ⟨_, _, none⟩) (by dsimp only; omega)).trans m7) ((hW.cell (p := ⟨_, _, none⟩) (by dsimp only; omega)).trans m8)
      ((hW.cell (p := ⟨_, _, none⟩) (by dsimp only; omega)).trans k0) ((hW.cell (p := ⟨_, _, none⟩) (by dsimp only; omega)).trans k1) ((hW.cell (p := ⟨_, _, none⟩) (by dsimp only; omega)).trans k2) h0
  clear hmul
  refine wpIn_rangeFunc_ownH rfl (by omega) (gf := 130) (lb := #[.pointer (some ⟨w.heap.size + 1 + 1 + 1 + 1, 0, none⟩), .pointer (some ⟨w.heap.size + 1 + 1 + 1 + 1 + 1, 0, none⟩)]) rfl trivial (enters_of Tryz.func130 (by kernel_rfl) rfl)
    hseq KpF.t (KpF.b (by omega) (by omega) (by omega)) (Below.refl _ _) (fun _ => rfl)
    (fun pre W => ((W.cell? ⟨w.heap.size + 1 + 1 + 1, 0, none⟩ = some (.int .i64 (fluxW (p0, p1) 0 pre)) ∧ W.frozen? ⟨w.heap.size + 1 + 1 + 1, 0, none⟩ = false) ∧ (W.cell? ⟨w.heap.size + 1 + 1, 0, none⟩ = some (.int .i64 p0) ∧ W.cell? ⟨w.heap.size + 1 + 1, 1, none⟩ = some (.int .i64 p1))) ∧ (Below w.heap.size w W ∧ W0.heap.size ≤ W.heap.size))
    (fun _ _ _ => False)
    (OwnFrom.and (OwnFrom.and (Own.from (fun s X Y row hs hg hr => ⟨cell_kept hs.1 hg hr, (frozen_kept hs.1 hg hr).trans hs.2⟩) _) (Own.from (fun s X Y row hs hg hr => ⟨cell_kept hs.1 hg hr, cell_kept hs.2 hg hr⟩) _)) (OwnFrom.and (ownFrom_below (Nat.le_refl _) (by omega)) (fun _ _ _ _ hs hg _ => Nat.le_trans hs hg.size)))
    (fun _ _ _ _ _ hs _ _ => hs)
    ⟨⟨⟨s0, sf⟩, q0, q1⟩, hB0, Nat.le_refl _⟩
    (fun x a' W => ∃ Bx, W0.heap.size ≤ Bx ∧ Bx < W.heap.size ∧ (W.cell? ⟨Bx, 0, none⟩ = some (.int .i64 x.1.1) ∧ W.cell? ⟨Bx, 1, none⟩ = some (.int .i64 x.1.2)) ∧ a' = { tmps := #[.agg #[.string name, .slice A la ca, .slice B lb cb, .slice Cl lc cl, .int .i64 g.r, .int .i64 g.z, .int .i64 g.nr, .int .i64 g.nz, .int .i64 g.step, .slice D ld cd], .agg #[.slice A1 na qa, .slice B1 nb qb, .slice C len cap], .agg #[.int .i64 p0, .int .i64 p1], .pointer (some ⟨w.heap.size, 0, none⟩), .pointer (some ⟨w.heap.size + 1, 0, none⟩), .pointer (some ⟨w.heap.size + 1 + 1, 0, none⟩), .int .i64 0, .pointer (some ⟨w.heap.size + 1 + 1 + 1, 0, none⟩), .pointer (some ⟨Bx, 0, none⟩), .int .i64 x.2, .agg #[.string name, .slice A la ca, .slice B lb cb, .slice Cl lc cl, .int .i64 g.r, .int .i64 g.z, .int .i64 g.nr, .int .i64 g.nz, .int .i64 g.step, .slice D ld cd], .agg #[.slice A1 na qa, .slice B1 nb qb, .slice C len cap], .func (.func 130) #[] #[.pointer (some ⟨w.heap.size + 1 + 1 + 1 + 1, 0, none⟩), .pointer (some ⟨w.heap.size + 1 + 1 + 1 + 1 + 1, 0, none⟩)], .agg #[.int .i64 x.1.1, .int .i64 x.1.2], .int .i64 x.2, undef, undef, undef, undef, undef, undef, undef, undef], defers := [] })
    (fun x a' _ X Y row hs hg hr => by obtain ⟨Bx, h1, h2, h3, h4⟩ := hs; exact ⟨Bx, h1, Nat.lt_of_lt_of_le h2 hg.size, ⟨cell_kept h3.1 hg (fun r e => (hr r e).2), cell_kept h3.2 hg (fun r e => (hr r e).2)⟩, h4⟩)
    ?assign ?body ?done ?stop
  case assign =>
    rintro l pre x W K hI hK
    have hW := hI.2.2
    gi_wp2
    refine hK _ _ ((KeepsOthers.alloc _ _).from _) (KpF.of_below (by omega) (by omega) (by omega) ((Below.refl _ W).alloc (Nat.le_refl _) _)) ⟨⟨⟨?_, ?_⟩, ?_, ?_⟩, hI.2.1.alloc hI.2.1.size _, by simp; omega⟩ ⟨W.heap.size, hW, by simp, ⟨by go_simp, by go_simp⟩, rfl⟩
    · rw [World.cell?_alloc_old _ _ _ (by dsimp only; omega)]; exact hI.1.1.1
    · rw [World.frozen?_alloc_old _ _ _ (by dsimp only; omega)]; exact hI.1.1.2
    · rw [World.cell?_alloc_old _ _ _ (by dsimp only; omega)]; exact hI.1.2.1
    · rw [World.cell?_alloc_old _ _ _ (by dsimp only; omega)]; exact hI.1.2.2
  case body =>
    rintro l pre x a' W hl' ⟨r, hr⟩ ⟨⟨⟨c0, f0⟩, c1, c2⟩, hB, hW⟩ ⟨Bx, hBx, hBx2, ⟨b0, b1⟩, rfl⟩ hlt
    have hd : 1 ≤ 8 - 1 - 1 := by omega
    have hmx : Tryz.prog.follows .mixedOrders = true := by kernel_rfl
    obtain ⟨⟨xr, xz⟩, xc⟩ := x
    have HX := Lib.hid (HP.out pre ((xr, xz), xc))
    dsimp only at *
    generalize fluxW (p0, p1) 0 pre = sm at *
    gi_wp2
    gi_region_with_o (gi_at_call 30; refine (CallsIn.inRound l (callsIn_wide.2 (influence_any _ _ _ _ _))).mono ?_; rintro e w1 ⟨rfl, hb⟩; have d0 := (hb.cell (p := ⟨w.heap.size + 1 + 1 + 1, 0, none⟩) (by first | (show _ < W.heap.size; dsimp only; omega) | (dsimp only; omega))).trans (by first | exact c0 | (rw [World.cell?_drew]; exact c0)); have g0 := (hb.frozen (p := ⟨w.heap.size + 1 + 1 + 1, 0, none⟩) (by first | (show _ < W.heap.size; dsimp only; omega) | (dsimp only; omega))).trans (by first | exact f0 | (rw [World.frozen?_drew]; exact f0)); have d1 := (hb.cell (p := ⟨w.heap.size + 1 + 1, 0, none⟩) (by first | (show _ < W.heap.size; dsimp only; omega) | (dsimp only; omega))).trans (by first | exact c1 | (rw [World.cell?_drew]; exact c1)); have d2 := (hb.cell (p := ⟨w.heap.size + 1 + 1, 1, none⟩) (by first | (show _ < W.heap.size; dsimp only; omega) | (dsimp only; omega))).trans (by first | exact c2 | (rw [World.cell?_drew]; exact c2)); have hs1 := hb.size)
    all_goals gi_wp2
    all_goals (try go_bits)
    all_goals have hb' : Below W.heap.size W w1 := ((Below.refl _ W).drew).trans hb
    all_goals have hs2 := hb'.size
    all_goals exact ⟨(KeepsFrom.of_grownBy (grown_of_below hb') (fun j e => by cases e)).trans ((KeepsOthers.setCell _ _ _).from _), (KpF.of_below (by omega) (by omega) (by omega) hb').t ⟨(Below.refl _ _).setCell (p := ⟨w.heap.size + 1 + 1 + 1, 0, none⟩) (by dsimp only; omega) _, fun b o hbb => World.cell?_setCell_other _ _ _ _ (by intro e; injection e with e1 e2; omega)⟩, ⟨⟨by rw [HX.out]; exact World.cell?_setCell_same' _ _ _ (by rw [d0]; rfl), by rw [World.frozen?_setCell]; exact g0⟩, by rw [World.cell?_setCell_other _ _ _ _ (by intro e; injection e with e1 e2; omega)]; exact d1, by rw [World.cell?_setCell_other _ _ _ _ (by intro e; injection e with e1 e2; omega)]; exact d2⟩, (hB.trans (hb'.mono hB.size)).setCell (p := ⟨w.heap.size + 1 + 1 + 1, 0, none⟩) (by dsimp only; omega) _, by rw [World.size_setCell]; omega⟩
  case done =>
    rintro E ys W hD rfl ⟨⟨⟨c0, _⟩, _⟩, hB, _⟩ hK
    gi_wp2
    refine ⟨by simp, .inl ⟨_, _, rfl, run_takeDeferred hK, ?_⟩⟩
    exact ⟨_, results_tmp rfl _ _ _, (by rw [hS]; rfl), hB.trans (belowK_b (w := w) (Nat.le_refl _) W E _ _ (by omega) hK rfl rfl)⟩
  case stop =>
    rintro E c pre W _ _ h _
    exact h.elim

end Go.Proofs.YtjjajleiladbhaaGreatDoor
end
section
/- Package machine: fluxAt over a machine that has neither coils nor shells, over this seat's translation (written by mk_flux.py). -/
namespace Go.Proofs.YtjjajleiladbhaaGreatDoor
set_option linter.unusedVariables false
set_option linter.unusedSimpArgs false
open Go.RowKit Go.Shelf
attribute [local go_sem] Oper.semAt_some

end Go.Proofs.YtjjajleiladbhaaGreatDoor
end
section
/- Package machine: Exact of a flux sensor over a machine that has neither coils nor shells, over this seat's translation. -/
namespace Go.Proofs.YtjjajleiladbhaaGreatDoor
set_option linter.unusedVariables false
set_option linter.unusedSimpArgs false
open Go.RowKit Go.Shelf

end Go.Proofs.YtjjajleiladbhaaGreatDoor
end
