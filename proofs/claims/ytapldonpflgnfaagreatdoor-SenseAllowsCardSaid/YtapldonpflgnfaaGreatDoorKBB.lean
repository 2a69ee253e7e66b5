import Derived.Test.YtapldonpflgnfaaGreatDoorKAQ
import Derived.Test.YtapldonpflgnfaaGreatDoorKAU
import Derived.Test.YtapldonpflgnfaaGreatDoorKAW
import Derived.Test.YtapldonpflgnfaaGreatDoorKAY
import Derived.Test.YtapldonpflgnfaaGreatDoorKBA
import Derived.Test.YtapldonpflgnfaaGreatDoorRows
import Derived.KernelRfl
import Derived.Laws.StructEq
import Derived.Laws.Small
namespace Go.Proofs.YtapldonpflgnfaaGreatDoor
set_option linter.unusedVariables false
set_option linter.unusedSimpArgs false
section
open Go.RowKit Go.Shelf
end
section
open Go.RowKit Go.Shelf
end
section
open Go.RowKit
end
section
open Go.RowKit
end
section
open Go.RowKit Go.Shelf
def MadeAt (n : Nat) (T : List Value) (w : World) (e : Ending) (w' : World) : Prop :=
  ∃ b : Nat, e = .returned (.slice (some ⟨b, 0, none⟩) n n) ∧ w.heap.size ≤ b ∧ RowL b T w' ∧ Below w.heap.size w w'
theorem fill_get (T : List Value) (n j : Nat) (z : Value) (hl : T.length = n) (hj : j < n) : (T.take j ++ List.replicate (n - j) z)[j]? = some z := by
  have h1 : (T.take j).length = j := by rw [List.length_take]; omega
  rw [List.getElem?_append_right (by omega), h1, Nat.sub_self, List.getElem?_replicate, if_pos (by omega)]
theorem fill_len (T : List Value) (n j : Nat) (z : Value) (hl : T.length = n) (hj : j ≤ n) : (T.take j ++ List.replicate (n - j) z).length = n := by
  rw [List.length_append, List.length_take, List.length_replicate]; omega
theorem fill_all (T : List Value) (n : Nat) (z : Value) (hl : T.length = n) : T.take n ++ List.replicate (n - n) z = T := by
  rw [Nat.sub_self, List.replicate_zero, List.append_nil, List.take_of_length_le (by omega)]
theorem fill_none (T : List Value) (n : Nat) (z : Value) : T.take 0 ++ List.replicate (n - 0) z = List.replicate n z := by
  rw [List.take_zero, List.nil_append, Nat.sub_zero]
theorem RowL.fill {b : Nat} {T : List Value} {n j : Nat} {z v : Value} {W : World} (h : RowL b (T.take j ++ List.replicate (n - j) z) W) (hl : T.length = n) (hj : j < n) (hv : T[j]? = some v) : RowL b (T.take (j + 1) ++ List.replicate (n - (j + 1)) z) (W.setCell ⟨b, j, none⟩ v) := by
  have := h.put j v (by rw [fill_len T n j z hl (by omega)]; exact hj)
  rwa [fill_set T n j z v hl hv] at this
end
section
open Go.RowKit Go.Shelf
def bgL (M : MachD) (C : CurD) : List Int := (List.range M.sensors.length).map fun (k : Nat) => (backL M C (k : Int)).1
theorem bgL_get {M : MachD} {C : CurD} {k : Nat} (h : k < M.sensors.length) : (bgL M C)[k]? = some (backL M C (k : Int)).1 := by
  unfold bgL
  simp [h]
set_option maxRecDepth 100000 in
set_option maxHeartbeats 8000000 in
theorem backgrounds_any (R : MachR) (M : MachD) (Qr : CurR) (Cd : CurD) (w : World) (hM : IsM w R M) (hC : IsC w Qr Cd) (hl : R.ld ≤ 1000) :
    Calls Tryz.prog 40 #[.agg (machCells R M), Qr.v] w (MadeAt R.ld ((bgL M Cd).map (Value.int .i64)) w) := by
  obtain ⟨bf, hbf⟩ : ∃ bf : Nat → Int × Int, ∀ k : Nat, backL M Cd (k : Int) = bf k := ⟨fun k => backL M Cd (k : Int), fun _ => rfl⟩
  have HB0 := Lib.hid (fun (k : Nat) (hk : k < R.ld) W (hb : Below w.heap.size w W) => (by have h := background_any R M Qr Cd (k : Int) W (hM.below hb) (hC.below hb) (by omega) (by omega); rw [hbf k] at h; exact h : Calls Tryz.prog 29 #[.agg (machCells R M), Qr.v, .int .i64 (k : Int)] W (Ret (.tuple #[.int .i64 (bf k).1, .int .i64 (bf k).2]) W)))
  have HG : Hid (∀ k : Nat, k < R.ld → ((bgL M Cd).map (Value.int .i64))[k]? = some (.int .i64 (bf k).1)) := Lib.hid (fun k hk => by rw [← hbf k, List.getElem?_map, bgL_get (by rw [hM.sensors.1]; exact hk)]; rfl)
  have HL : Hid (((bgL M Cd).map (Value.int .i64)).length = R.ld) := Lib.hid (by rw [List.length_map]; unfold bgL; rw [List.length_map, List.length_range, hM.sensors.1])
  clear hM hC hbf
  generalize (bgL M Cd).map (Value.int .i64) = T at *
  obtain ⟨A, B, Cl, D, la, ca, lb, cb, lc, cl, ld, cd⟩ := R
  obtain ⟨name, coils, shells, limits, ⟨r, z, nr, nz, step⟩, sensors⟩ := M
  obtain ⟨A1, B1, C1, na, qa, nb, qb, nc, qc⟩ := Qr
  dsimp only [CurR.v] at *
  have hmk := run_make_row' (P := Tryz.prog) 30 3 (.int .i64 0) 8 Tryz.underlying30 infoI rfl .i64 .i64 ld (by omega) (by omega)
  show Calls Tryz.prog 40 #[.agg #[.string name, .slice A la ca, .slice B lb cb, .slice Cl lc cl, .int .i64 r, .int .i64 z, .int .i64 nr, .int .i64 nz, .int .i64 step, .slice D ld cd], .agg #[.slice A1 na qa, .slice B1 nb qb, .slice C1 nc qc]] w _
  go_enter Tryz.func40, Tryz.ntmps40
  go_upto_region 1 with (fail)
  have Fm : Hid (RowL (w.heap.size) [.string name, .slice A la ca, .slice B lb cb, .slice Cl lc cl, .int .i64 r, .int .i64 z, .int .i64 nr, .int .i64 nz, .int .i64 step, .slice D ld cd] ((w.alloc (.cells #[.string name, .slice A la ca, .slice B lb cb, .slice Cl lc cl, .int .i64 r, .int .i64 z, .int .i64 nr, .int .i64 nz, .int .i64 step, .slice D ld cd] 29)).alloc (.cells #[.slice A1 na qa, .slice B1 nb qb, .slice C1 nc qc] 32))) := Lib.hid (by have h := RowL.new w #[.string name, .slice A la ca, .slice B lb cb, .slice Cl lc cl, .int .i64 r, .int .i64 z, .int .i64 nr, .int .i64 nz, .int .i64 step, .slice D ld cd] 29; (try simp only [World.size_alloc] at h); exact (h.alloc _))
  have Fc : Hid (RowL (w.heap.size + 1) [.slice A1 na qa, .slice B1 nb qb, .slice C1 nc qc] ((w.alloc (.cells #[.string name, .slice A la ca, .slice B lb cb, .slice Cl lc cl, .int .i64 r, .int .i64 z, .int .i64 nr, .int .i64 nz, .int .i64 step, .slice D ld cd] 29)).alloc (.cells #[.slice A1 na qa, .slice B1 nb qb, .slice C1 nc qc] 32))) := Lib.hid (by have h := RowL.new (w.alloc (.cells #[.string name, .slice A la ca, .slice B lb cb, .slice Cl lc cl, .int .i64 r, .int .i64 z, .int .i64 nr, .int .i64 nz, .int .i64 step, .slice D ld cd] 29)) #[.slice A1 na qa, .slice B1 nb qb, .slice C1 nc qc] 32; (try simp only [World.size_alloc] at h); exact h)
  have hB0 : Below w.heap.size w ((w.alloc (.cells #[.string name, .slice A la ca, .slice B lb cb, .slice Cl lc cl, .int .i64 r, .int .i64 z, .int .i64 nr, .int .i64 nz, .int .i64 step, .slice D ld cd] 29)).alloc (.cells #[.slice A1 na qa, .slice B1 nb qb, .slice C1 nc qc] 32)) := by (repeat first | with_reducible exact Below.refl _ _ | (with_reducible refine Below.alloc ?_ ?_ _; rotate_left; exact (by first | omega | (simp; done))))
  have sW0 : w.heap.size + 1 < ((w.alloc (.cells #[.string name, .slice A la ca, .slice B lb cb, .slice Cl lc cl, .int .i64 r, .int .i64 z, .int .i64 nr, .int .i64 nz, .int .i64 step, .slice D ld cd] 29)).alloc (.cells #[.slice A1 na qa, .slice B1 nb qb, .slice C1 nc qc] 32)).heap.size := by simp only [World.size_alloc]; omega
  obtain ⟨W0, hW0⟩ : ∃ W, ((w.alloc (.cells #[.string name, .slice A la ca, .slice B lb cb, .slice Cl lc cl, .int .i64 r, .int .i64 z, .int .i64 nr, .int .i64 nz, .int .i64 step, .slice D ld cd] 29)).alloc (.cells #[.slice A1 na qa, .slice B1 nb qb, .slice C1 nc qc] 32)) = W := ⟨_, rfl⟩
  rw [hW0] at Fm Fc hB0 sW0 ⊢
  clear hW0
  have m0 := Fm.out.cell 0 (.string name) rfl
  have m1 := Fm.out.cell 1 (.slice A la ca) rfl
  have m2 := Fm.out.cell 2 (.slice B lb cb) rfl
  have m3 := Fm.out.cell 3 (.slice Cl lc cl) rfl
  have m4 := Fm.out.cell 4 (.int .i64 r) rfl
  have m5 := Fm.out.cell 5 (.int .i64 z) rfl
  have m6 := Fm.out.cell 6 (.int .i64 nr) rfl
  have m7 := Fm.out.cell 7 (.int .i64 nz) rfl
  have m8 := Fm.out.cell 8 (.int .i64 step) rfl
  have m9 := Fm.out.cell 9 (.slice D ld cd) rfl
  have c0 := Fc.out.cell 0 (.slice A1 na qa) rfl
  have c1 := Fc.out.cell 1 (.slice B1 nb qb) rfl
  have c2 := Fc.out.cell 2 (.slice C1 nc qc) rfl
  go_upto_region 2 with (fail)
  have hR0 : Hid (RowL W0.heap.size (T.take 0 ++ List.replicate (ld - 0) (.int .i64 0)) (W0.alloc (.cells (madeCells #[.int .i64 0] ld) 3))) := Lib.hid (by rw [fill_none]; exact (ZeroL.new W0 ld 3 (by omega)).row)
  have hb1 : Below W0.heap.size W0 (W0.alloc (.cells (madeCells #[.int .i64 0] ld) 3)) := by (repeat first | with_reducible exact Below.refl _ _ | (with_reducible refine Below.alloc ?_ ?_ _; rotate_left; exact (by omega)))
  obtain ⟨W1, hW1⟩ : ∃ W, W0.alloc (.cells (madeCells #[.int .i64 0] ld) 3) = W := ⟨_, rfl⟩
  rw [hW1] at hR0 hb1 ⊢
  clear hW1 hmk m0 m1 m2 m3 m4 m5 m6 m7 m8 m9 c0 c1 c2
  go_wp2_with fail
  go_loopw [13] (fun i wr => ∃ j : Nat, j ≤ ld ∧ i = .int .i64 j ∧ Hid (RowL W0.heap.size (T.take j ++ List.replicate (ld - j) (.int .i64 0)) wr) ∧ Below W0.heap.size W0 wr) (fun i _ => ld - (intOf i).toNat)
  case atStart => exact ⟨0, Nat.zero_le _, rfl, hR0, hb1⟩
  case round =>
    obtain ⟨j, hj, rfl, hR, hB⟩ := hrel
    have sz := hB.size
    by_cases hlt : j < ld
    · obtain ⟨x, hx⟩ : ∃ x, (bf j).1 = x := ⟨_, rfl⟩
      obtain ⟨y, hy⟩ : ∃ y, (bf j).2 = y := ⟨_, rfl⟩
      have HT := Lib.hid (HG.out j hlt)
      have HC := Lib.hid (HB0.out j hlt)
      rw [hx] at HT HC
      rw [hy] at HC
      clear hx hy
      have m0 := (Fm.out.below hB).cell 0 (.string name) rfl
      have m1 := (Fm.out.below hB).cell 1 (.slice A la ca) rfl
      have m2 := (Fm.out.below hB).cell 2 (.slice B lb cb) rfl
      have m3 := (Fm.out.below hB).cell 3 (.slice Cl lc cl) rfl
      have m4 := (Fm.out.below hB).cell 4 (.int .i64 r) rfl
      have m5 := (Fm.out.below hB).cell 5 (.int .i64 z) rfl
      have m6 := (Fm.out.below hB).cell 6 (.int .i64 nr) rfl
      have m7 := (Fm.out.below hB).cell 7 (.int .i64 nz) rfl
      have m8 := (Fm.out.below hB).cell 8 (.int .i64 step) rfl
      have m9 := (Fm.out.below hB).cell 9 (.slice D ld cd) rfl
      have c0 := (Fc.out.below hB).cell 0 (.slice A1 na qa) rfl
      have c1 := (Fc.out.below hB).cell 1 (.slice B1 nb qb) rfl
      have c2 := (Fc.out.below hB).cell 2 (.slice C1 nc qc) rfl
      have HC2 := Lib.hid (show ∀ W, Below w.heap.size w W → Calls Tryz.prog 29 #[.agg #[.string name, .slice A la ca, .slice B lb cb, .slice Cl lc cl, .int .i64 r, .int .i64 z, .int .i64 nr, .int .i64 nz, .int .i64 step, .slice D ld cd], .agg #[.slice A1 na qa, .slice B1 nb qb, .slice C1 nc qc], .int .i64 j] W (Ret (.tuple #[.int .i64 x, .int .i64 y]) W) from HC.out)
      have jn : ((j : Int)).toNat = j := by omega
      have j0 : (0 : Int) ≤ j := by omega
      clear HC hR0 hb1
      go_wp2_with fail
      refine (HC2.out _ (hB0.trans (hB.mono hB0.size))).mono ?_
      rintro e w2 ⟨rfl, hb⟩
      have hR2 := hR.out.below hb
      have r0 := hR2.cell j (.int .i64 0) (fill_get T ld j _ HL.out hlt)
      have rf := hR2.mark j (by rw [fill_len T ld j _ HL.out (by omega)]; exact hlt)
      have HR3 := Lib.hid (hR2.fill HL.out hlt HT.out)
      have hB2 := hB.trans (hb.mono hB.size)
      have sz2 := hb.size
      have hbk : W0.heap.size < w2.heap.size := hR2.lt
      clear hR2 hb m0 m1 m2 m3 m4 m5 m6 m7 m8 m9 c0 c1 c2 HC2
      go_wp2_with fail
      go_roundw
      case rel => exact ⟨j + 1, by omega, by go_num, HR3, by (repeat first | with_reducible assumption | (with_reducible refine Below.setCell ?_ ?_ _; rotate_left; exact (by (simp; done))))⟩
      case measure => simp [intOf]; omega
    · obtain rfl : j = ld := by omega
      have hR2 := hR.out
      rw [fill_all T j _ HL.out] at hR2
      have HR3 := Lib.hid hR2
      clear hR hR0 hb1 hR2
      go_wp2_with fail
      go_ret
      exact ⟨W0.heap.size, rfl, by omega, HR3.out, hB0.trans (hB.mono hB0.size)⟩
end
section
set_option autoImplicit false
open Go.RowKit
theorem aq_swapT {E : Cfg} {U : Snaps} {l : Slots} {L L' L1 A B G : Boxes} {X : Act → World → Prop} (hT : Tl L1 (A ++ (B ++ G)) L) (hT' : Tl L1 (B ++ (A ++ G)) L') (h : AQ E U l L' X) : AQ E U l L X := fun a w hf hs => h a w hf (by
  refine hs.perm ?_
  rw [hT.eq, hT'.eq]
  refine List.Perm.append_left L1 ?_
  rw [← List.append_assoc, ← List.append_assoc]
  exact List.Perm.append_right G List.perm_append_comm)
def rowK (g : GridD) (n i : Nat) : List Int := (List.range n).map fun (j : Nat) => infl (cellR g i) (cellZ g i) (cellR g j) (cellZ g j)
theorem rowK_length (g : GridD) (n i : Nat) : (rowK g n i).length = n := by simp [rowK]
def slcs (n : Nat) (r : Option Addr × Nat) : List Value := [.slice r.1 n r.2]
def RowsIn (g : GridD) (n : Nat) (G : Boxes) (rows : List (Option Addr × Nat)) : Prop := ∀ (i : Nat) r, rows[i]? = some r → ∃ b sp, r.1 = some ⟨b, 0, none⟩ ∧ (b, Cont.cells ((rowK g n i).map (Value.int .i64) ++ sp)) ∈ G ∧ n ≤ r.2 ∧ r.2 ≤ 9223372036854775807
theorem RowsIn.snoc {g : GridD} {n : Nat} {G : Boxes} {rows : List (Option Addr × Nat)} (h : RowsIn g n G rows) {o : Gr} {cs : List Value} (hg : gok o n 1 cs) (hn : 0 < n) (hcs : cs = (rowK g n rows.length).map (Value.int .i64)) : RowsIn g n (gt o cs ++ G) (rows ++ [(gA o, gC o)]) := by
  intro i r hr
  rcases Nat.lt_or_ge i rows.length with g1 | g1
  · rw [List.getElem?_append_left g1] at hr
    obtain ⟨b, sp, e, hm, h1⟩ := h i r hr
    exact ⟨b, sp, e, List.mem_append_right _ hm, h1⟩
  · rw [List.getElem?_append_right g1] at hr
    have hi : i - rows.length = 0 := by
      have := (List.getElem?_eq_some_iff.1 hr).1
      simp only [List.length_cons, List.length_nil] at this; omega
    rw [hi] at hr
    obtain rfl : (gA o, gC o) = r := by simpa using hr
    obtain ⟨b, c, sp, rfl⟩ := hg.some hn
    obtain ⟨h1, h2, h3⟩ := hg.own b c sp rfl
    refine ⟨b, sp, rfl, List.mem_append_left _ ?_, h1, h2⟩
    rw [show i = rows.length by omega, ← hcs]; simp [gt]
theorem Sta.rowK {N : Nat} {D : List Deferred} {w0 w : World} {U : Snaps} {L G : Boxes} {g : GridD} {n : Nat} {rows : List (Option Addr × Nat)} (h : Sta ⟨N, D, w0, []⟩ U L w) (hG : ∀ x ∈ G, x ∈ L) (hr : RowsIn g n G rows) : ∀ (i : Nat) r, rows[i]? = some r → NewT 1 intCells w0.heap.size w r.1 n r.2 (rowK g n i) := by
  intro i r hi
  obtain ⟨b, sp, e, hm, h1, h2⟩ := hr i r hi
  obtain ⟨j, hj⟩ := List.getElem?_of_mem (hG _ hm)
  refine ⟨?_, fun b' off e' => ?_, h1, h2⟩
  · rw [e]; exact isT_box (n := 1) (enc := intCells) (fun _ => rfl) (h.at j hj) (flat_int _) (rowK_length _ _ _)
  · rw [e] at e'; cases e'
    rcases (h.box j _ _ hj).1 with g1 | g1
    · exact g1
    · cases g1
end
section
set_option autoImplicit false
open Go.RowKit
section
variable {P : Program} {e0 : Cfg} {U : Snaps} {l : Slots} {L : Boxes} {ops : Array Oper} {Q : Exit → Act → World → Prop} {rest : List Oper} {d : Nat} {v : Value}
variable {ty : TypeId} {pos : String} {af : Array Edge} {g : Option (Nat × Bool)} {dd : Option Nat}
end
theorem Tl.app {L1 X G L : Boxes} (h : Tl L1 (X ++ G) L) : Tl (L1 ++ X) G L := by
  have := h.eq
  subst this
  clear h
  induction L1 with
  | nil => induction X with
    | nil => exact .z
    | cons x r ih => exact .s ih
  | cons x r ih => exact .s ih
theorem Tl.of {L1 G L : Boxes} (h : L = L1 ++ G) : Tl L1 G L := by
  subst h
  induction L1 with
  | nil => exact .z
  | cons x r ih => exact .s ih
section
variable {P : Program} {e0 : Cfg} {U : Snaps} {l : Slots} {L : Boxes} {ops : Array Oper} {Q : Exit → Act → World → Prop} {rest : List Oper} {d : Nat} {v : Value}
variable {ty : TypeId} {pos : String} {af : Array Edge} {g : Option (Nat × Bool)} {dd : Option Nat}
end
end
end Go.Proofs.YtapldonpflgnfaaGreatDoor
