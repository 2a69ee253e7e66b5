import Derived.Test.YtapldonpflgnfaaGreatDoorLAA
import Derived.Test.YtapldonpflgnfaaGreatDoorLAD
import Derived.Test.YtapldonpflgnfaaGreatDoorLAK
import Derived.Test.YtapldonpflgnfaaGreatDoorLAR
import Derived.Test.YtapldonpflgnfaaGreatDoorLAY
import Derived.Test.YtapldonpflgnfaaGreatDoorLBA
import Derived.Test.YtapldonpflgnfaaGreatDoorLBC
import Derived.Test.YtapldonpflgnfaaGreatDoorRows
import Derived.KernelRfl
import Derived.Laws.StructEq
import Derived.Lib.Hide
import Derived.Deep.RegionHeld3
import Derived.Deep.DeepCutAuto
import Derived.Deep.QuietTactic
import Derived.BigQuiet
import Derived.IntWalk
namespace Go.Proofs.YtapldonpflgnfaaGreatDoor
set_option linter.unusedVariables false
set_option linter.unusedSimpArgs false
section
open Go.RowKit
end
section
open Go.RowKit Go.Shelf
def MadeAt (n : Nat) (T : List Value) (w : World) (e : Ending) (w' : World) : Prop :=
 ∃ b : Nat, e = .returned (.slice (some ⟨b, 0, none⟩) n n) ∧ w.heap.size ≤ b ∧ RowL b T w' ∧ Below w.heap.size w w'
theorem fill_get (T : List Value) (n j : Nat) (z : Value) (hl : T.length = n) (hj : j < n) : (T.take j ++ List.replicate (n - j) z)[j]? = some z := by
 have h1 : (T.take j).length = j := by rw [List.length_take]; omega
 rw [List.getElem?_append_right (by omega), h1, Nat.sub_self, List.getElem?_replicate, if_pos (by omega)]
theorem fill_len (T : List Value) (n j : Nat) (z : Value) (hl : T.length = n) (hj : j ≤ n) : (T.take j ++ List.replicate (n - j) z).length = n := by
 rw [List.length_append, List.length_take, List.length_replicate]; omega
theorem fill_all (T : List Value) (n : Nat) (z : Value) (hl : T.length = n) : T.take n ++ List.replicate (n - n) z = T := by
 rw [Nat.sub_self, List.replicate_zero, List.append_nil, List.take_of_length_le (by omega)]
theorem fill_none (T : List Value) (n : Nat) (z : Value) : T.take 0 ++ List.replicate (n - 0) z = List.replicate n z := by
 rw [List.take_zero, List.nil_append, Nat.sub_zero]
theorem RowL.fill {b : Nat} {T : List Value} {n j : Nat} {z v : Value} {W : World} (h : RowL b (T.take j ++ List.replicate (n - j) z) W) (hl : T.length = n) (hj : j < n) (hv : T[j]? = some v) : RowL b (T.take (j + 1) ++ List.replicate (n - (j + 1)) z) (W.setCell ⟨b, j, none⟩ v) := by
 have := h.put j v (by rw [fill_len T n j z hl (by omega)]; exact hj)
 rwa [fill_set T n j z v hl hv] at this
end
section
open Go.RowKit Go.Shelf
def bgL (M : MachD) (C : CurD) : List Int := (List.range M.sensors.length).map fun (k : Nat) => (backL M C (k : Int)).1
theorem bgL_get {M : MachD} {C : CurD} {k : Nat} (h : k < M.sensors.length) : (bgL M C)[k]? = some (backL M C (k : Int)).1 := by
 unfold bgL
 simp [h]
set_option maxRecDepth 100000 in
set_option maxHeartbeats 8000000 in
theorem backgrounds_any (R : MachR) (M : MachD) (Qr : CurR) (Cd : CurD) (w : World) (hM : IsM w R M) (hC : IsC w Qr Cd) (hl : R.ld ≤ 1000) :
  Calls Tryz.prog 40 #[.agg (machCells R M), Qr.v] w (MadeAt R.ld ((bgL M Cd).map (Value.int .i64)) w) := by
 obtain ⟨bf, hbf⟩ : ∃ bf : Nat → Int × Int, ∀ k : Nat, backL M Cd (k : Int) = bf k := ⟨fun k => backL M Cd (k : Int), fun _ => rfl⟩
 have HB0 := Lib.hid (fun (k : Nat) (hk : k < R.ld) W (hb : Below w.heap.size w W) => (by have h := background_any R M Qr Cd (k : Int) W (hM.below hb) (hC.below hb) (by omega) (by omega); rw [hbf k] at h; exact h : Calls Tryz.prog 29 #[.agg (machCells R M), Qr.v, .int .i64 (k : Int)] W (Ret (.tuple #[.int .i64 (bf k).1, .int .i64 (bf k).2]) W)))
 have HG : Hid (∀ k : Nat, k < R.ld → ((bgL M Cd).map (Value.int .i64))[k]? = some (.int .i64 (bf k).1)) := Lib.hid (fun k hk => by rw [← hbf k, List.getElem?_map, bgL_get (by rw [hM.sensors.1]; exact hk)]; rfl)
 have HL : Hid (((bgL M Cd).map (Value.int .i64)).length = R.ld) := Lib.hid (by rw [List.length_map]; unfold bgL; rw [List.length_map, List.length_range, hM.sensors.1])
 clear hM hC hbf
 generalize (bgL M Cd).map (Value.int .i64) = T at *
 obtain ⟨A, B, Cl, D, la, ca, lb, cb, lc, cl, ld, cd⟩ := R
 obtain ⟨name, coils, shells, limits, ⟨r, z, nr, nz, step⟩, sensors⟩ := M
 obtain ⟨A1, B1, C1, na, qa, nb, qb, nc, qc⟩ := Qr
 dsimp only [CurR.v] at *
 have hmk := run_make_row' (P := Tryz.prog) 30 3 (.int .i64 0) 8 Tryz.underlying30 infoI rfl .i64 .i64 ld (by omega) (by omega)
 show Calls Tryz.prog 40 #[.agg #[.string name, .slice A la ca, .slice B lb cb, .slice Cl lc cl, .int .i64 r, .int .i64 z, .int .i64 nr, .int .i64 nz, .int .i64 step, .slice D ld cd], .agg #[.slice A1 na qa, .slice B1 nb qb, .slice C1 nc qc]] w _
 go_enter Tryz.func40, Tryz.ntmps40
 go_upto_region 1 with (fail)
 have Fm : Hid (RowL (w.heap.size) [.string name, .slice A la ca, .slice B lb cb, .slice Cl lc cl, .int .i64 r, .int .i64 z, .int .i64 nr, .int .i64 nz, .int .i64 step, .slice D ld cd] ((w.alloc (.cells #[.string name, .slice A la ca, .slice B lb cb, .slice Cl lc cl, .int .i64 r, .int .i64 z, .int .i64 nr, .int .i64 nz, .int .i64 step, .slice D ld cd] 29)).alloc (.cells #[.slice A1 na qa, .slice B1 nb qb, .slice C1 nc qc] 32))) := Lib.hid (by have h := RowL.new w #[.string name, .slice A la ca, .slice B lb cb, .slice Cl lc cl, .int .i64 r, .int .i64 z, .int .i64 nr, .int .i64 nz, .int .i64 step, .slice D ld cd] 29; (try simp only [World.size_alloc] at h); exact (h.alloc _))
 have Fc : Hid (RowL (w.heap.size + 1) [.slice A1 na qa, .slice B1 nb qb, .slice C1 nc qc] ((w.alloc (.cells #[.string name, .slice A la ca, .slice B lb cb, .slice Cl lc cl, .int .i64 r, .int .i64 z, .int .i64 nr, .int .i64 nz, .int .i64 step, .slice D ld cd] 29)).alloc (.cells #[.slice A1 na qa, .slice B1 nb qb, .slice C1 nc qc] 32))) := Lib.hid (by have h := RowL.new (w.alloc (.cells #[.string name, .slice A la ca, .slice B lb cb, .slice Cl lc cl, .int .i64 r, .int .i64 z, .int .i64 nr, .int .i64 nz, .int .i64 step, .slice D ld cd] 29)) #[.slice A1 na qa, .slice B1 nb qb, .slice C1 nc qc] 32; (try simp only [World.size_alloc] at h); exact h)
 have hB0 : Below w.heap.size w ((w.alloc (.cells #[.string name, .slice A la ca, .slice B lb cb, .slice Cl lc cl, .int .i64 r, .int .i64 z, .int .i64 nr, .int .i64 nz, .int .i64 step, .slice D ld cd] 29)).alloc (.cells #[.slice A1 na qa, .slice B1 nb qb, .slice C1 nc qc] 32)) := by (repeat first | with_reducible exact Below.refl _ _ | (with_reducible refine Below.alloc ?_ ?_ _; rotate_left; exact (by first | omega | (simp; done))))
 have sW0 : w.heap.size + 1 < ((w.alloc (.cells #[.string name, .slice A la ca, .slice B lb cb, .slice Cl lc cl, .int .i64 r, .int .i64 z, .int .i64 nr, .int .i64 nz, .int .i64 step, .slice D ld cd] 29)).alloc (.cells #[.slice A1 na qa, .slice B1 nb qb, .slice C1 nc qc] 32)).heap.size := by simp only [World.size_alloc]; omega
 obtain ⟨W0, hW0⟩ : ∃ W, ((w.alloc (.cells #[.string name, .slice A la ca, .slice B lb cb, .slice Cl lc cl, .int .i64 r, .int .i64 z, .int .i64 nr, .int .i64 nz, .int .i64 step, .slice D ld cd] 29)).alloc (.cells #[.slice A1 na qa, .slice B1 nb qb, .slice C1 nc qc] 32)) = W := ⟨_, rfl⟩
 rw [hW0] at Fm Fc hB0 sW0 ⊢
 clear hW0
 have m0 := Fm.out.cell 0 (.string name) rfl
 have m1 := Fm.out.cell 1 (.slice A la ca) rfl
 have m2 := Fm.out.cell 2 (.slice B lb cb) rfl
 have m3 := Fm.out.cell 3 (.slice Cl lc cl) rfl
 have m4 := Fm.out.cell 4 (.int .i64 r) rfl
 have m5 := Fm.out.cell 5 (.int .i64 z) rfl
 have m6 := Fm.out.cell 6 (.int .i64 nr) rfl
 have m7 := Fm.out.cell 7 (.int .i64 nz) rfl
 have m8 := Fm.out.cell 8 (.int .i64 step) rfl
 have m9 := Fm.out.cell 9 (.slice D ld cd) rfl
 have c0 := Fc.out.cell 0 (.slice A1 na qa) rfl
 have c1 := Fc.out.cell 1 (.slice B1 nb qb) rfl
 have c2 := Fc.out.cell 2 (.slice C1 nc qc) rfl
 go_upto_region 2 with (fail)
 have hR0 : Hid (RowL W0.heap.size (T.take 0 ++ List.replicate (ld - 0) (.int .i64 0)) (W0.alloc (.cells (madeCells #[.int .i64 0] ld) 3))) := Lib.hid (by rw [fill_none]; exact (ZeroL.new W0 ld 3 (by omega)).row)
 have hb1 : Below W0.heap.size W0 (W0.alloc (.cells (madeCells #[.int .i64 0] ld) 3)) := by (repeat first | with_reducible exact Below.refl _ _ | (with_reducible refine Below.alloc ?_ ?_ _; rotate_left; exact (by omega)))
 obtain ⟨W1, hW1⟩ : ∃ W, W0.alloc (.cells (madeCells #[.int .i64 0] ld) 3) = W := ⟨_, rfl⟩
 rw [hW1] at hR0 hb1 ⊢
 clear hW1 hmk m0 m1 m2 m3 m4 m5 m6 m7 m8 m9 c0 c1 c2
 go_wp2_with fail
 go_loopw [13] (fun i wr => ∃ j : Nat, j ≤ ld ∧ i = .int .i64 j ∧ Hid (RowL W0.heap.size (T.take j ++ List.replicate (ld - j) (.int .i64 0)) wr) ∧ Below W0.heap.size W0 wr) (fun i _ => ld - (intOf i).toNat)
 case atStart => exact ⟨0, Nat.zero_le _, rfl, hR0, hb1⟩
 case round =>
  obtain ⟨j, hj, rfl, hR, hB⟩ := hrel
  have sz := hB.size
  by_cases hlt : j < ld
  ·obtain ⟨x, hx⟩ : ∃ x, (bf j).1 = x := ⟨_, rfl⟩
   obtain ⟨y, hy⟩ : ∃ y, (bf j).2 = y := ⟨_, rfl⟩
   have HT := Lib.hid (HG.out j hlt)
   have HC := Lib.hid (HB0.out j hlt)
   rw [hx] at HT HC
   rw [hy] at HC
   clear hx hy
   have m0 := (Fm.out.below hB).cell 0 (.string name) rfl
   have m1 := (Fm.out.below hB).cell 1 (.slice A la ca) rfl
   have m2 := (Fm.out.below hB).cell 2 (.slice B lb cb) rfl
   have m3 := (Fm.out.below hB).cell 3 (.slice Cl lc cl) rfl
   have m4 := (Fm.out.below hB).cell 4 (.int .i64 r) rfl
   have m5 := (Fm.out.below hB).cell 5 (.int .i64 z) rfl
   have m6 := (Fm.out.below hB).cell 6 (.int .i64 nr) rfl
   have m7 := (Fm.out.below hB).cell 7 (.int .i64 nz) rfl
   have m8 := (Fm.out.below hB).cell 8 (.int .i64 step) rfl
   have m9 := (Fm.out.below hB).cell 9 (.slice D ld cd) rfl
   have c0 := (Fc.out.below hB).cell 0 (.slice A1 na qa) rfl
   have c1 := (Fc.out.below hB).cell 1 (.slice B1 nb qb) rfl
   have c2 := (Fc.out.below hB).cell 2 (.slice C1 nc qc) rfl
   have HC2 := Lib.hid (show ∀ W, Below w.heap.size w W → Calls Tryz.prog 29 #[.agg #[.string name, .slice A la ca, .slice B lb cb, .slice Cl lc cl, .int .i64 r, .int .i64 z, .int .i64 nr, .int .i64 nz, .int .i64 step, .slice D ld cd], .agg #[.slice A1 na qa, .slice B1 nb qb, .slice C1 nc qc], .int .i64 j] W (Ret (.tuple #[.int .i64 x, .int .i64 y]) W) from HC.out)
   have jn : ((j : Int)).toNat = j := by omega
   have j0 : (0 : Int) ≤ j := by omega
   clear HC hR0 hb1
   go_wp2_with fail
   refine (HC2.out _ (hB0.trans (hB.mono hB0.size))).mono ?_
   rintro e w2 ⟨rfl, hb⟩
   have hR2 := hR.out.below hb
   have r0 := hR2.cell j (.int .i64 0) (fill_get T ld j _ HL.out hlt)
   have rf := hR2.mark j (by rw [fill_len T ld j _ HL.out (by omega)]; exact hlt)
   have HR3 := Lib.hid (hR2.fill HL.out hlt HT.out)
   have hB2 := hB.trans (hb.mono hB.size)
   have sz2 := hb.size
   have hbk : W0.heap.size < w2.heap.size := hR2.lt
   clear hR2 hb m0 m1 m2 m3 m4 m5 m6 m7 m8 m9 c0 c1 c2 HC2
   go_wp2_with fail
   go_roundw
   case rel => exact ⟨j + 1, by omega, by go_num, HR3, by (repeat first | with_reducible assumption | (with_reducible refine Below.setCell ?_ ?_ _; rotate_left; exact (by (simp; done))))⟩
   case measure => simp [intOf]; omega
  ·obtain rfl : j = ld := by omega
   have hR2 := hR.out
   rw [fill_all T j _ HL.out] at hR2
   have HR3 := Lib.hid hR2
   clear hR hR0 hb1 hR2
   go_wp2_with fail
   go_ret
   exact ⟨W0.heap.size, rfl, by omega, HR3.out, hB0.trans (hB.mono hB0.size)⟩
end
section
open Go.RowKit
theorem Sta.isC4 {E : Cfg} {U : Snaps} {L : Boxes} {w u : World} {lo : Nat} {Q : CurR} {C : CurD} (h : Sta E U L w) (hu : (lo, u) ∈ U) (hC : IsC u Q C) (ha : ∀ b o, Q.A = some ⟨b, o, none⟩ → lo ≤ b) (hb : ∀ b o, Q.B = some ⟨b, o, none⟩ → lo ≤ b) (hc : ∀ b o, Q.C = some ⟨b, o, none⟩ → lo ≤ b) : IsC w Q C :=
 ⟨h.isT hu hC.coils (fun b o e => Or.inl (ha b o e)), h.isT hu hC.shells (fun b o e => Or.inl (hb b o e)), h.isT hu hC.plasma (fun b o e => Or.inl (hc b o e)), hC.la, hC.lb, hC.lc, hC.ca, hC.cb, hC.cc, hC.ka, hC.kb, hC.kc⟩
theorem flat_set (n j : Nat) : ((List.replicate n (0 : Int)).set j 1).flatMap intCells = (List.replicate n (Value.int .i64 0)).set j (.int .i64 1) := by
 rw [flat_int, List.map_set, List.map_replicate]
def respRow (M : MachD) (N k : Nat) : List Int := (List.range N).map fun (j : Nat) => (respL M (k : Int) (j : Int)).1
theorem respRow_length (M : MachD) (N k : Nat) : (respRow M N k).length = N := by simp [respRow]
theorem respRow_get {M : MachD} {N k j : Nat} (h : j < N) : (respRow M N k)[j]? = some (respL M (k : Int) (j : Int)).1 := by
 unfold respRow; rw [List.getElem?_map, List.getElem?_range h]; rfl
theorem respRow_take (M : MachD) (N k j : Nat) (hj : j < N) : (respRow M N k).take (j + 1) = (respRow M N k).take j ++ [(respL M (k : Int) (j : Int)).1] := by
 obtain ⟨h1, e⟩ := List.getElem?_eq_some_iff.1 (respRow_get (M := M) (k := k) hj)
 rw [List.take_succ_eq_append_getElem h1, e]
theorem bgL_len (M : MachD) (C : CurD) : (bgL M C).length = M.sensors.length := by simp [bgL]
theorem bgL_take {M : MachD} {C : CurD} {k : Nat} (h : k < M.sensors.length) : (bgL M C).take (k + 1) = (bgL M C).take k ++ [(backL M C (k : Int)).1] := by
 obtain ⟨h1, e⟩ := List.getElem?_eq_some_iff.1 (bgL_get (M := M) (C := C) h)
 rw [List.take_succ_eq_append_getElem h1, e]
def RowsG (f : Nat → List Int) (n : Nat) (G : Boxes) (rows : List (Option Addr × Nat)) : Prop := ∀ (i : Nat) r, rows[i]? = some r → ∃ b sp, r.1 = some ⟨b, 0, none⟩ ∧ (b, Cont.cells ((f i).map (Value.int .i64) ++ sp)) ∈ G ∧ n ≤ r.2 ∧ r.2 ≤ 9223372036854775807
theorem RowsG.snoc {f : Nat → List Int} {n : Nat} {G : Boxes} {rows : List (Option Addr × Nat)} (h : RowsG f n G rows) {o : Gr} {cs : List Value} (hg : gok o n 1 cs) (hn : 0 < n) (hcs : cs = (f rows.length).map (Value.int .i64)) : RowsG f n (gt o cs ++ G) (rows ++ [(gA o, gC o)]) := by
 intro i r hr
 rcases Nat.lt_or_ge i rows.length with g1 | g1
 ·rw [List.getElem?_append_left g1] at hr
  obtain ⟨b, sp, e, hm, h1⟩ := h i r hr
  exact ⟨b, sp, e, List.mem_append_right _ hm, h1⟩
 ·rw [List.getElem?_append_right g1] at hr
  have hi : i - rows.length = 0 := by
   have := (List.getElem?_eq_some_iff.1 hr).1
   simp only [List.length_cons, List.length_nil] at this; omega
  rw [hi] at hr
  obtain rfl : (gA o, gC o) = r := by simpa using hr
  obtain ⟨b, c, sp, rfl⟩ := hg.some hn
  obtain ⟨h1, h2, h3⟩ := hg.own b c sp rfl
  refine ⟨b, sp, rfl, List.mem_append_left _ ?_, h1, h2⟩
  rw [show i = rows.length by omega, ← hcs]; simp [gt]
theorem Sta.rowG {N : Nat} {D : List Deferred} {w0 w : World} {U : Snaps} {L G : Boxes} {f : Nat → List Int} {n : Nat} {rows : List (Option Addr × Nat)} (hf : ∀ i, (f i).length = n) (h : Sta ⟨N, D, w0, []⟩ U L w) (hG : ∀ x ∈ G, x ∈ L) (hr : RowsG f n G rows) : ∀ (i : Nat) r, rows[i]? = some r → NewT 1 intCells w0.heap.size w r.1 n r.2 (f i) := by
 intro i r hi
 obtain ⟨b, sp, e, hm, h1, h2⟩ := hr i r hi
 obtain ⟨j, hj⟩ := List.getElem?_of_mem (hG _ hm)
 refine ⟨?_, fun b' off e' => ?_, h1, h2⟩
 ·rw [e]; exact isT_box (n := 1) (enc := intCells) (fun _ => rfl) (h.at j hj) (flat_int _) (hf i)
 ·rw [e] at e'; cases e'
  rcases (h.box j _ _ hj).1 with g1 | g1
  ·exact g1
  ·cases g1
structure NewTab (M : MachD) (C : CurD) (N n B : Nat) (w : World) (A1 A2 : Option Addr) (c1 c2 : Nat) (rows : List (Option Addr × Nat)) : Prop where
 bg : NewT 1 intCells B w A1 n c1 (bgL M C)
 out : NewT 1 (slcs N) B w A2 n c2 rows
 row : ∀ (i : Nat) r, rows[i]? = some r → NewT 1 intCells B w r.1 N r.2 (respRow M N i)
structure TbS where
 (k : Nat) (o : Gr) (cs : List Value) (p : Gr) (ds : List Value) (G : Boxes) (rows : List (Option Addr × Nat))
set_option maxRecDepth 100000 in
theorem runit9_any (R : MachR) (M : MachD) (j : Nat) (w : World) (hM : IsM w R M) (hc : checkC M = 0) (hj : j < (M.grid.nr * M.grid.nz).toNat) : Calls Tryz.prog 75 #[(.agg (machCells R M)), (.int .i64 (j : Int))] w (fun e w' => ∃ x1 x2 x3, e = .returned (.agg #[.slice (some ⟨x1, 0, none⟩) R.la R.la, .slice (some ⟨x2, 0, none⟩) R.lb R.lb, .slice (some ⟨x3, 0, none⟩) (M.grid.nr * M.grid.nz).toNat (M.grid.nr * M.grid.nz).toNat]) ∧ IsC w' ⟨some ⟨x1, 0, none⟩, some ⟨x2, 0, none⟩, some ⟨x3, 0, none⟩, R.la, R.la, R.lb, R.lb, (M.grid.nr * M.grid.nz).toNat, (M.grid.nr * M.grid.nz).toNat⟩ (unitD M.coils.length M.shells.length (M.grid.nr * M.grid.nz).toNat j) ∧ (w.heap.size ≤ x1 ∧ w.heap.size ≤ x2 ∧ w.heap.size ≤ x3) ∧ Below w.heap.size w w') := by
 have hs0 := sound_of hc
 have hg := cells_fine hs0.grid
 have hsc := hs0.coils.1
 have hss := hs0.shells.1
 have hla := hM.coils.1
 have hlb := hM.shells.1
 refine calls_ax (vs := [(.agg (machCells R M)), (.int .i64 (j : Int))]) Tryz.func75 rfl rfl ?_
 refine ac_seq (ac_region ?_)
 refine al_new (fun b => .pointer (some ⟨b, 0, none⟩)) (r_box rfl rfl) rfl rfl rfl ?_
 intro b1
 refine al_new (fun b => .pointer (some ⟨b, 0, none⟩)) (r_alloc Tryz.zeroValue32 rfl) rfl rfl rfl ?_
 intro b2
 refine al_end (aq_then ?_)
 refine ac_seq (ac_region ?_)
 refine al_p (q_loadAll (i := 1) rfl rfl Tryz.isAgg29 Tryz.sizeOf29 rfl) (al_callS Tryz.call118 (.cons rfl .nil) rfl rfl (fun w1 hs1 => ?_))
 refine (rQuiet_ok R M _ (hM.below hs1.below) hc).mono ?_
 rintro e u1 ⟨x1, x2, x3, rfl, hb_1⟩
 refine ⟨_, _, _, rfl, hs1.gift hb_1, ?_⟩
 refine al_new (fun b => .pointer (some ⟨b, 0, none⟩)) (r_alloc Tryz.zeroValue32 rfl) rfl rfl rfl ?_
 intro b3
 refine al_storeAll (i := 0) rfl rfl rfl rfl Tryz.sizeOf32 rfl rfl .k0 rfl (al_end (aq_then ?_))
 refine ac_seq (ac_region ?_)
 refine al_p (q_fieldAddr 2 rfl Tryz.runUnderlying32 rfl Tryz.sizeOf30 (by decide) rfl) (al_p (q_load (i := 0) rfl rfl rfl Tryz.isAgg30) (al_p (q_move rfl) ?_))
 refine al_p (q_indexAddr (i := j) (j) rfl rfl rfl hj Tryz.runUnderlying30 Tryz.sizeOf3 (by omega)) ?_
 refine al_store1 (i := 3) rfl rfl rfl rfl Tryz.sizeOf3 (SetAt.ofSet (by rw [List.length_replicate]; exact hj)) .k3 rfl (al_end (aq_then ?_))
 refine ac_seq (ac_region ?_)
 refine al_p (q_loadAll (i := 0) rfl rfl Tryz.isAgg32 Tryz.sizeOf32 rfl) (al_storeAll (i := 4) rfl rfl rfl rfl Tryz.sizeOf32 rfl rfl .k4 rfl (al_end (aq_then ?_)))
 refine ac_ret (retR Tryz.results75 (.agg (i := 4) rfl rfl Tryz.isAgg32 Tryz.sizeOf32 rfl .nil) .one (fun w9 hs => ?_))
 refine ⟨x1, x2, x3, rfl, ⟨?_, ?_, ?_, Nat.le_refl _, Nat.le_refl _, Nat.le_refl _, by simp only; omega, by simp only; omega, by simp only; omega, by simp only; omega, by simp only; omega, by simp only; omega⟩, ⟨hs.new 1 rfl _ 0 rfl, hs.new 2 rfl _ 0 rfl, hs.new 3 rfl _ 0 rfl⟩, hs.below⟩
 ·exact isT_box0 (n := 1) (enc := intCells) (fun _ => rfl) (hs.at 1 rfl) (by rw [unitD, hla]; exact flat_ints _) (by simp [unitD, hla])
 ·exact isT_box0 (n := 1) (enc := intCells) (fun _ => rfl) (hs.at 2 rfl) (by rw [unitD, hlb]; exact flat_ints _) (by simp [unitD, hlb])
 ·exact isT_box0 (n := 1) (enc := intCells) (fun _ => rfl) (hs.at 3 rfl) (flat_set _ _) (by simp [unitD])
theorem sxa_bs_int_1_0_ (a0 : Value) (ha0 : a0.oneCell' = true) : ∀ w, (Instr.buildSlice 30 1 #[(0, a0)]).run Tryz.prog w = .ok (.slice (some ⟨w.heap.size, 0, none⟩) 1 1) (w.alloc (.cells [a0].toArray 3)) := by
 have ea0 : a0.cells = #[a0] := cells_one ha0
 intro w; (simp [Instr.buildSlice, Instr.fill, cells_agg, newRow, Tryz.runUnderlying30, Tryz.zeroValue3, Tryz.sizeOf3, ea0] <;> (rw [(by kernel_rfl : Array.range 1 = #[0])]; simp [Value.cells]))
theorem sxa_bs_LLint_1_0_ (a0 : Value) (ha0 : a0.oneCell' = true) : ∀ w, (Instr.buildSlice 89 1 #[(0, a0)]).run Tryz.prog w = .ok (.slice (some ⟨w.heap.size, 0, none⟩) 1 1) (w.alloc (.cells [a0].toArray 30)) := by
 have ea0 : a0.cells = #[a0] := cells_one ha0
 intro w; (simp [Instr.buildSlice, Instr.fill, cells_agg, newRow, Tryz.runUnderlying89, Tryz.zeroValue30, Tryz.sizeOf30, ea0] <;> (rw [(by kernel_rfl : Array.range 1 = #[0])]; simp [Value.cells]))
set_option maxRecDepth 100000 in
theorem rtable_any (R : MachR) (M : MachD) (Q : CurR) (C : CurD) (w : World) (hM : IsM w R M) (hC : IsC w Q C) (hv : Fit2 M C) : Calls Tryz.prog 35 #[(.agg (machCells R M)), Q.v] w (fun e w' => ∃ A1 c1 A2 c2 rows, e = .returned (.agg #[.slice A1 R.ld c1, .slice A2 R.ld c2]) ∧ NewTab M C (M.grid.nr * M.grid.nz).toNat R.ld w.heap.size w' A1 A2 c1 c2 rows ∧ Below w.heap.size w w') := by
 have hvc := fit2_iff.2 hv
 have hs0 := sound_of hv.check
 have hg := cells_fine hs0.grid
 have hsc := hs0.coils.1
 have hss := hs0.shells.1
 have hsn := hs0.sensors.1
 have hla := hM.coils.1
 have hlb := hM.shells.1
 have hld := hM.sensors.1
 have hca := hv.coils.1
 have hcb := hv.shells.1
 have hcp := hv.plasma.1
 have qa := hC.coils.1
 have qb := hC.shells.1
 have qc := hC.plasma.1
 have hcn : cellsN M = M.grid.nr * M.grid.nz := by simp [cellsN, hv.check]
 refine calls_ax (vs := [(.agg (machCells R M)), Q.v]) Tryz.func35 rfl rfl ?_
 refine ac_seq (ac_region ?_)
 refine al_new (fun b => .pointer (some ⟨b, 0, none⟩)) (r_box rfl rfl) rfl rfl rfl ?_
 intro b1
 refine al_new (fun b => .pointer (some ⟨b, 0, none⟩)) (r_box rfl rfl) rfl rfl rfl ?_
 intro b2
 refine al_new (fun b => .pointer (some ⟨b, 0, none⟩)) (r_alloc Tryz.zeroValue91 rfl) rfl rfl rfl ?_
 intro b3
 refine al_end (aq_then ?_)
 refine ac_seq (ac_region ?_)
 refine al_new (fun b => .pointer (some ⟨b, 0, none⟩)) (r_alloc Tryz.zeroValue91 rfl) rfl rfl rfl ?_
 intro b4
 refine al_end (aq_then ?_)
 refine ac_seq (ac_seq (ac_region ?_))
 refine al_p (q_assign rfl) (al_end (aq_then ?_))
 refine ac_block (ac_loop (β := TbS) (fun x => x.k ≤ R.ld ∧ gok x.o x.k 1 x.cs ∧ x.cs = ((bgL M C).take x.k).map (Value.int .i64) ∧ gok x.p x.k 1 x.ds ∧ x.ds = x.rows.flatMap (slcs (M.grid.nr * M.grid.nz).toNat) ∧ x.rows.length = x.k ∧ RowsG (respRow M (M.grid.nr * M.grid.nz).toNat) (M.grid.nr * M.grid.nz).toNat x.G x.rows) (fun x => [(2, (.pointer (some ⟨b1, 0, none⟩))), (3, (.pointer (some ⟨b2, 0, none⟩))), (4, (.pointer (some ⟨b3, 0, none⟩))), (5, (.pointer (some ⟨b4, 0, none⟩))), (6, (.int .i64 (x.k : Int)))]) (fun _ => _) (fun x => (b4, .cells [(.slice (gA x.o) x.k (gC x.o)), (.slice (gA x.p) x.k (gC x.p))]) :: (b3, _) :: (b2, _) :: (b1, _) :: (gt x.o x.cs ++ (gt x.p x.ds ++ (x.G)))) (fun x => R.ld - x.k) ⟨0, none, [], none, [], [], []⟩ ⟨by simp, gok.none 1, by simp, gok.none 1, rfl, rfl, fun i r h => by simp at h⟩ ⟨rfl, rfl, rfl, rfl, rfl, trivial⟩ (fun w9 hs => hs) (fun x hF1 => ?_))
 obtain ⟨hxn, hgo, hcx, hgp, hdx, hrl, hri⟩ := hF1
 refine ac_seq (ac_seq (ac_region ?_))
 refine al_p (q_move rfl) ?_
 refine al_p (q_fieldAddr 9 rfl Tryz.runUnderlying29 rfl Tryz.sizeOf27 (by decide) rfl) (al_p (q_load (i := 3) rfl rfl rfl Tryz.isAgg27) (al_p (q_lenS rfl Tryz.runUnderlying27) (al_p (q_lss rfl rfl) (al_end (aq_then ?_)))))
 refine ac_cond rfl (fun h1 => ?_) (fun h1 => ?_)
 ·have hxl : x.k < R.ld := by have := of_decide_eq_true h1; omega
  have hbk : (backL M C (x.k : Int)).1 = (exactL M (darkD C) (x.k : Int)).1 := by rw [backL_eq hvc, if_pos (wthn_iff.2 ⟨by omega, by omega⟩)]
  refine ac_skip (aq_then (ac_seq (ac_block (ac_seq ?_))))
  refine ac_drawF 10 (.s (.s (.s (.s .z)))) (by kernel_rfl) (by kernel_rfl) ?_
  refine ah_t 0 (fun w9 hs => (hs.front (.s (.s (.s (.s (.z))))))) rfl rfl (by kernel_rfl) (q_loadAll (i := 3) rfl rfl Tryz.isAgg29 Tryz.sizeOf29 rfl) (ah_t 1 (fun w9 hs => (hs.front (.s (.s (.s (.s (.z))))))) rfl rfl (by kernel_rfl) (q_loadAll (i := 3) rfl rfl Tryz.isAgg29 Tryz.sizeOf29 rfl) (ah_t 2 (fun w9 hs => (hs.front (.s (.s (.s (.s (.z))))))) rfl rfl (by kernel_rfl) (q_loadAll (i := 2) rfl rfl Tryz.isAgg32 Tryz.sizeOf32 rfl) (ah_t 4 (fun w9 hs => (hs.front (.s (.s (.s (.s (.z))))))) rfl rfl (by kernel_rfl) (q_move rfl) (ah_one 3 rfl (by kernel_rfl) (fun hok1 hcl1 => ?_)))))
  refine al_call Tryz.call55 (.cons rfl (.cons rfl .nil)) rfl rfl (fun w1 hs1 => ?_)
  refine (rdark_any R M Q.A Q.B Q.C Q.la Q.ca Q.lb Q.cb Q.lc Q.cc C.coils C.shells _ (hC.coils.below hs1.below) (hC.shells.below hs1.below) (by omega) (by omega) (by omega)).mono ?_
  rintro e u1 ⟨dA, da, dB, db, dp, rfl, DK, hb_1⟩
  refine ⟨_, rfl, hb_1, ?_⟩
  clear hs1
  refine al_end (ah_back hok1 hcl1 (fun w9 hs => ((hs.fewer 1 rfl).front (.s (.s (.s (.s (.z))))))) ?_)
  refine ah_one 5 rfl (by kernel_rfl) (fun hok2 hcl2 => ?_)
  refine al_call Tryz.call74 (.cons rfl (.cons rfl (.cons rfl .nil))) rfl rfl (fun w2 hs2 => ?_)
  have hdk : IsC w2 ⟨dA, dB, some ⟨dp, 0, none⟩, Q.la, da, Q.lb, db, Q.lc, Q.lc⟩ (darkD C) := hs2.isC4 (.head _) (by have h9 := dark_isC DK (by omega) (by omega) (by omega); unfold darkD; rw [hC.plasma.1]; exact h9) (fun b o e => by have := DK.coils.new _ e; exact this) (fun b o e => by have := DK.shells.new _ e; exact this) (fun b o e => by cases e; exact DK.base)
  refine (rexact_any R M ⟨dA, dB, some ⟨dp, 0, none⟩, Q.la, da, Q.lb, db, Q.lc, Q.lc⟩ (darkD C) (x.k : Int) _ (hM.below hs2.below) hdk).mono ?_
  rintro e u2 ⟨rfl, hb_2⟩
  refine ⟨_, rfl, hb_2, ?_⟩
  clear hs2
  refine al_end (ah_back hok2 hcl2 (fun w9 hs => ((hs.fewer 2 rfl).front (.s (.s (.s (.s (.z))))))) ?_)
  refine ah_t 6 (fun w9 hs => ((hs.fewer 2 rfl).front (.s (.s (.s (.s (.z))))))) rfl rfl (by kernel_rfl) (q_move rfl) (ah_t 7 (fun w9 hs => ((hs.fewer 2 rfl).front (.s (.s (.s (.s (.z))))))) rfl rfl (by kernel_rfl) (q_extract rfl rfl) (ah_t 8 (fun w9 hs => ((hs.fewer 2 rfl).front (.s (.s (.s (.s (.z))))))) rfl rfl (by kernel_rfl) (q_extract rfl rfl) (ah_one 9 rfl (by kernel_rfl) (fun hok3 hcl3 => ?_))))
  refine al_p (q_assign rfl) (al_end (ah_back hok3 hcl3 (fun w9 hs => ((hs.fewer 2 rfl).front (.s (.s (.s (.s (.z))))))) ?_))
  refine ah_one 10 rfl (by kernel_rfl) (fun hok4 hcl4 => ?_)
  refine al_p (q_assign rfl) (al_end (ah_last (by kernel_rfl) ?_))
  refine aq_then (ac_seq (ac_region ?_))
  refine al_p (q_fieldAddr 0 rfl Tryz.runUnderlying91 rfl Tryz.sizeOf30 (by decide) rfl) (al_p (q_load (i := 0) rfl rfl rfl Tryz.isAgg30) (al_p (q_move rfl) (al_new (fun b => .slice (some ⟨b, 0, none⟩) 1 1) (r_buildSlice (.cons rfl .nil) (sxa_bs_int_1_0_ _ rfl)) rfl rfl rfl ?_)))
  intro b5
  refine al_grow (z := 1) (bytes := 8) (zv := (.int .i64 0)) (o := x.o) (cs := x.cs) (vs := [.int .i64 (exactL M (darkD C) (x.k : Int)).1]) rfl rfl (.s (.s (.s (.s (.s (.z)))))) hgo (Sor.box (j := 0) rfl rfl rfl) Tryz.underlying30 (by kernel_rfl) rfl (by omega) (by decide) rfl rfl (fun o_1 g_1 => ?_)
  refine ⟨_, (.s (.s (.s (.s (.s (.z)))))), ?_⟩
  refine al_p (q_fieldAddr 0 rfl Tryz.runUnderlying91 rfl Tryz.sizeOf30 (by decide) rfl) (al_store1 (i := 1) rfl rfl rfl rfl Tryz.sizeOf30 .k0 .k1 rfl (al_end (aq_then ?_)))
  refine ac_seq (ac_region ?_)
  refine al_p (q_assign rfl) (al_end (aq_then ?_))
  refine ac_seq (ac_seq (ac_region ?_))
  refine al_p (q_assign rfl) (al_end (aq_then ?_))
  refine ac_block (ac_loop (β := Nat × Gr × List Value) (fun y => y.1 ≤ (M.grid.nr * M.grid.nz).toNat ∧ gok y.2.1 y.1 1 y.2.2 ∧ y.2.2 = ((respRow M (M.grid.nr * M.grid.nz).toNat x.k).take y.1).map (Value.int .i64)) (fun y => [(2, (.pointer (some ⟨b1, 0, none⟩))), (3, (.pointer (some ⟨b2, 0, none⟩))), (4, (.pointer (some ⟨b3, 0, none⟩))), (5, (.pointer (some ⟨b4, 0, none⟩))), (6, (.int .i64 (x.k : Int))), (7, (.int .i64 (exactL M (darkD C) (x.k : Int)).1)), (9, (.slice (gA y.2.1) y.1 (gC y.2.1))), (10, (.int .i64 (y.1 : Int))), (13, (.int .i64 (x.k : Int))), (14, (.pointer (some ⟨b1, 9, none⟩))), (15, (.slice (R.D) R.ld R.cd)), (16, (.int .i64 (R.ld : Int))), (21, (.agg (machCells R M))), (22, (.agg (machCells R M))), (23, Q.v), (24, (.agg #[.slice dA Q.la da, .slice dB Q.lb db, .slice (some ⟨dp, 0, none⟩) Q.lc Q.lc])), (25, (.int .i64 (x.k : Int))), (27, (.int .i64 (exactL M (darkD C) (x.k : Int)).1)), (28, (.int .i64 (exactL M (darkD C) (x.k : Int)).2)), (29, (.pointer (some ⟨b4, 0, none⟩))), (30, (.slice (gA x.o) x.k (gC x.o))), (31, (.int .i64 (exactL M (darkD C) (x.k : Int)).1)), (32, (.slice (some ⟨b5, 0, none⟩) 1 1)), (33, (.slice (gA o_1) (x.k + 1) (gC o_1))), (34, (.pointer (some ⟨b4, 0, none⟩)))]) (fun _ => _) (fun y => (b5, _) :: (b4, _) :: (b3, _) :: (b2, _) :: (b1, _) :: (gt y.2.1 y.2.2 ++ (gt o_1 (x.cs ++ [.int .i64 (exactL M (darkD C) (x.k : Int)).1]) ++ (gt x.p x.ds ++ (x.G))))) (fun y => (M.grid.nr * M.grid.nz).toNat - y.1) (0, none, []) ⟨by simp, gok.none 1, by simp⟩ ⟨rfl, rfl, rfl, rfl, rfl, rfl, rfl, rfl, rfl, rfl, rfl, rfl, rfl, rfl, rfl, rfl, rfl, rfl, rfl, rfl, rfl, rfl, rfl, rfl, rfl, trivial⟩ (fun w9 hs => hs) (fun y hF2 => ?_))
  obtain ⟨hyn, hgy, hcy⟩ := hF2
  refine ac_seq (ac_seq (ac_region ?_))
  refine al_p (q_move rfl) (al_p (q_loadAll (i := 4) rfl rfl Tryz.isAgg29 Tryz.sizeOf29 rfl) (al_call Tryz.call34 (.cons rfl .nil) rfl rfl (fun w3 hs3 => ?_)))
  refine (rcellsN_any R M _ (hM.below hs3.below)).mono ?_
  rintro e u3 ⟨rfl, hb_3⟩
  refine ⟨_, rfl, hb_3, ?_⟩
  clear hs3
  refine al_p (q_lss rfl rfl) (al_end (aq_then ?_))
  refine ac_cond rfl (fun h2 => ?_) (fun h2 => ?_)
  ·have hyl : y.1 < (M.grid.nr * M.grid.nz).toNat := by have := of_decide_eq_true h2; omega
   have hrs : (respL M (x.k : Int) (y.1 : Int)).1 = (exactL M (unitD M.coils.length M.shells.length (M.grid.nr * M.grid.nz).toNat y.1) (x.k : Int)).1 := by rw [respL_eq hv.check (nc := (M.grid.nr * M.grid.nz).toNat) (by omega) (wthn_iff.2 ⟨by omega, by omega⟩) hyl]
   refine ac_skip (aq_then (ac_seq (ac_block (ac_seq ?_))))
   refine ac_drawF 10 (.s (.s (.s (.s (.s .z))))) (by kernel_rfl) (by kernel_rfl) ?_
   refine ah_t 0 (fun w9 hs => (hs.front (.s (.s (.s (.s (.s (.z)))))))) rfl rfl (by kernel_rfl) (q_loadAll (i := 4) rfl rfl Tryz.isAgg29 Tryz.sizeOf29 rfl) (ah_t 1 (fun w9 hs => (hs.front (.s (.s (.s (.s (.s (.z)))))))) rfl rfl (by kernel_rfl) (q_loadAll (i := 4) rfl rfl Tryz.isAgg29 Tryz.sizeOf29 rfl) (ah_t 2 (fun w9 hs => (hs.front (.s (.s (.s (.s (.s (.z)))))))) rfl rfl (by kernel_rfl) (q_move rfl) (ah_t 4 (fun w9 hs => (hs.front (.s (.s (.s (.s (.s (.z)))))))) rfl rfl (by kernel_rfl) (q_move rfl) (ah_one 3 rfl (by kernel_rfl) (fun hok5 hcl5 => ?_)))))
   refine al_call Tryz.call75 (.cons rfl (.cons rfl .nil)) rfl rfl (fun w4 hs4 => ?_)
   refine (runit9_any R M y.1 _ (hM.below hs4.below) hv.check (by omega)).mono ?_
   rintro e u4 ⟨x1, x2, x3, rfl, XC, XB, hb_4⟩
   refine ⟨_, rfl, hb_4, ?_⟩
   clear hs4
   refine al_end (ah_back hok5 hcl5 (fun w9 hs => ((hs.fewer 1 rfl).front (.s (.s (.s (.s (.s (.z)))))))) ?_)
   refine ah_one 5 rfl (by kernel_rfl) (fun hok6 hcl6 => ?_)
   refine al_call Tryz.call74 (.cons rfl (.cons rfl (.cons rfl .nil))) rfl rfl (fun w5 hs5 => ?_)
   have hun : IsC w5 ⟨some ⟨x1, 0, none⟩, some ⟨x2, 0, none⟩, some ⟨x3, 0, none⟩, R.la, R.la, R.lb, R.lb, (M.grid.nr * M.grid.nz).toNat, (M.grid.nr * M.grid.nz).toNat⟩ (unitD M.coils.length M.shells.length (M.grid.nr * M.grid.nz).toNat y.1) := hs5.isC4 (.head _) XC (fun b o e => by cases e; exact XB.1) (fun b o e => by cases e; exact XB.2.1) (fun b o e => by cases e; exact XB.2.2)
   refine (rexact_any R M ⟨some ⟨x1, 0, none⟩, some ⟨x2, 0, none⟩, some ⟨x3, 0, none⟩, R.la, R.la, R.lb, R.lb, (M.grid.nr * M.grid.nz).toNat, (M.grid.nr * M.grid.nz).toNat⟩ (unitD M.coils.length M.shells.length (M.grid.nr * M.grid.nz).toNat y.1) (x.k : Int) _ (hM.below hs5.below) hun).mono ?_
   rintro e u5 ⟨rfl, hb_5⟩
   refine ⟨_, rfl, hb_5, ?_⟩
   clear hs5
   refine al_end (ah_back hok6 hcl6 (fun w9 hs => ((hs.fewer 2 rfl).front (.s (.s (.s (.s (.s (.z)))))))) ?_)
   refine ah_t 6 (fun w9 hs => ((hs.fewer 2 rfl).front (.s (.s (.s (.s (.s (.z)))))))) rfl rfl (by kernel_rfl) (q_move rfl) (ah_t 7 (fun w9 hs => ((hs.fewer 2 rfl).front (.s (.s (.s (.s (.s (.z)))))))) rfl rfl (by kernel_rfl) (q_extract rfl rfl) (ah_t 8 (fun w9 hs => ((hs.fewer 2 rfl).front (.s (.s (.s (.s (.s (.z)))))))) rfl rfl (by kernel_rfl) (q_extract rfl rfl) (ah_one 9 rfl (by kernel_rfl) (fun hok7 hcl7 => ?_))))
   refine al_p (q_assign rfl) (al_end (ah_back hok7 hcl7 (fun w9 hs => ((hs.fewer 2 rfl).front (.s (.s (.s (.s (.s (.z)))))))) ?_))
   refine ah_one 10 rfl (by kernel_rfl) (fun hok8 hcl8 => ?_)
   refine al_p (q_assign rfl) (al_end (ah_last (by kernel_rfl) ?_))
   refine aq_then (ac_region (al_p (q_move rfl) (al_p (q_move rfl) (al_new (fun b => .slice (some ⟨b, 0, none⟩) 1 1) (r_buildSlice (.cons rfl .nil) (sxa_bs_int_1_0_ _ rfl)) rfl rfl rfl ?_))))
   intro b6
   refine al_grow (z := 1) (bytes := 8) (zv := (.int .i64 0)) (o := y.2.1) (cs := y.2.2) (vs := [.int .i64 (exactL M (unitD M.coils.length M.shells.length (M.grid.nr * M.grid.nz).toNat y.1) (x.k : Int)).1]) rfl rfl (.s (.s (.s (.s (.s (.s (.z))))))) hgy (Sor.box (j := 0) rfl rfl rfl) Tryz.underlying30 (by kernel_rfl) rfl (by omega) (by decide) rfl rfl (fun o_2 g_2 => ?_)
   refine ⟨_, (.s (.s (.s (.s (.s (.s (.z))))))), ?_⟩
   refine al_p (q_assign rfl) (al_end (aq_inN (aq_then (ac_region ?_))))
   refine al_p (q_move rfl) ?_
   refine al_p (q_add rfl rfl (by omega)) (al_p (q_assign rfl) (al_end (aq_then ?_)))
   skip
   refine aq_round ((y.1 + 1, o_2, (y.2.2 ++ [.int .i64 (exactL M (unitD M.coils.length M.shells.length (M.grid.nr * M.grid.nz).toNat y.1) (x.k : Int)).1]))) (by simp only; omega) ⟨by simp only; omega, g_2, by simp only; rw [hcy, respRow_take M _ x.k y.1 (by omega), hrs, List.map_append]; rfl⟩ ⟨rfl, rfl, rfl, rfl, rfl, rfl, rfl, rfl, rfl, rfl, rfl, rfl, rfl, rfl, rfl, rfl, rfl, rfl, rfl, rfl, rfl, rfl, rfl, rfl, rfl, trivial⟩ (fun w9 hs => ((hs.fewer 3 rfl).tail 1 rfl))
  ·have hye : y.1 = (M.grid.nr * M.grid.nz).toNat := by have := of_decide_eq_false h2; omega
   refine ac_exit (aq_thenE (aq_thenE (aq_hit (aq_then ?_))))
   refine aq_swapT (.s (.s (.s (.s (.s (.z)))))) (.s (.s (.s (.s (.s (.z)))))) ?_
   refine aq_swapT (Tl.app (.s (.s (.s (.s (.s (.z))))))) (Tl.app (.s (.s (.s (.s (.s (.z))))))) ?_
   refine aq_swapT (.s (.s (.s (.s (.s (.z)))))) (.s (.s (.s (.s (.s (.z)))))) ?_
   refine ac_region ?_
   refine al_p (q_fieldAddr 1 rfl Tryz.runUnderlying91 rfl Tryz.sizeOf89 (by decide) rfl) (al_p (q_load (i := 1) rfl rfl rfl Tryz.isAgg89) (al_p (q_move rfl) (al_new (fun b => .slice (some ⟨b, 0, none⟩) 1 1) (r_buildSlice (.cons rfl .nil) (sxa_bs_LLint_1_0_ _ rfl)) rfl rfl rfl ?_)))
   intro b7
   refine al_grow (z := 1) (bytes := 24) (zv := (.slice none 0 0)) (o := x.p) (cs := x.ds) (vs := [.slice (gA y.2.1) y.1 (gC y.2.1)]) rfl rfl (.s (.s (.s (.s (.s (.s (.z))))))) hgp (Sor.box (j := 0) rfl rfl rfl) Tryz.underlying89 (by kernel_rfl) rfl (by omega) (by decide) rfl rfl (fun o_3 g_3 => ?_)
   refine ⟨_, (.s (.s (.s (.s (.s (.s (.z))))))), ?_⟩
   refine al_p (q_fieldAddr 1 rfl Tryz.runUnderlying91 rfl Tryz.sizeOf89 (by decide) rfl) (al_store1 (i := 2) rfl rfl rfl rfl Tryz.sizeOf89 .k1 .k2 rfl (al_end (aq_inN (aq_then ?_))))
   refine aq_swapT (.s (.s (.s (.s (.s (.s (.z))))))) (.s (.s (.s (.s (.s (.s (.z))))))) ?_
   refine ac_region (al_p (q_move rfl) ?_)
   refine al_p (q_add rfl rfl (by omega)) (al_p (q_assign rfl) (al_end (aq_then ?_)))
   skip
   refine aq_round (⟨x.k + 1, o_1, (x.cs ++ [.int .i64 (exactL M (darkD C) (x.k : Int)).1]), o_3, (x.ds ++ [.slice (gA y.2.1) y.1 (gC y.2.1)]), gt y.2.1 y.2.2 ++ x.G, x.rows ++ [(gA y.2.1, gC y.2.1)]⟩) (by simp only; omega) ⟨by simp only; omega, g_1, by simp only; rw [hcx, bgL_take (by omega), hbk, List.map_append]; rfl, g_3, by simp only; rw [hdx, List.flatMap_append]; simp [slcs, hye], by simp only; rw [List.length_append, hrl]; rfl, RowsG.snoc hri (by rw [← hye]; exact hye ▸ hgy) (by omega) (by rw [hcy, hye, hrl, List.take_of_length_le (by rw [respRow_length]; exact Nat.le_refl _)])⟩ ⟨rfl, rfl, rfl, rfl, rfl, trivial⟩ (fun w9 hs => ((hs.fewer 3 rfl).tail 2 rfl))
 ·have hxe : x.k = R.ld := by have := of_decide_eq_false h1; omega
  refine ac_exit (aq_thenE (aq_thenE (aq_hit (aq_then ?_))))
  refine ac_seq (ac_region ?_)
  refine al_p (q_loadAll (i := 0) rfl rfl Tryz.isAgg91 Tryz.sizeOf91 rfl) (al_storeAll (i := 1) rfl rfl rfl rfl Tryz.sizeOf91 rfl rfl .k1 rfl (al_end (aq_then ?_)))
  refine ac_ret (retR Tryz.results35 (.agg (i := 1) rfl rfl Tryz.isAgg91 Tryz.sizeOf91 rfl .nil) .one (fun w9 hs => ?_))
  refine ⟨gA x.o, gC x.o, gA x.p, gC x.p, x.rows, by rw [hxe], ⟨?_, ?_, fun i r hr => hs.rowG (G := x.G) (respRow_length M _) (fun y hy => by simp [hy]) hri i r hr⟩, hs.below⟩
  ·have h9 := hs.grown (enc := intCells) (o := x.o) (cs := x.cs) (zs := bgL M C) (fun _ => rfl) (fun y hy => by simp [hy]) hgo (by rw [flat_int, hcx, List.take_of_length_le (by rw [bgL_len]; omega)]) (by rw [bgL_len]; omega); rw [hxe] at h9; exact h9
  ·have h9 := hs.grown (enc := slcs (M.grid.nr * M.grid.nz).toNat) (o := x.p) (cs := x.ds) (zs := x.rows) (fun _ => rfl) (fun y hy => by simp [hy]) hgp hdx.symm hrl; rw [hxe] at h9; exact h9
end
section
abbrev Tri := Int × Int × Int
def okP (x : Tri) : Bool := inR x.1 && vld x.2.1 x.2.2
def gLo (x : Tri) : Int := if 0 < x.1 then flo (x.2.1 * 1000) x.1 else if x.1 < 0 then flo (x.2.2 * 1000) x.1 else if x.2.1 ≤ 0 ∧ 0 ≤ x.2.2 then -1000000000 else 1
def gHi (x : Tri) : Int := if 0 < x.1 then cei (x.2.2 * 1000) x.1 else if x.1 < 0 then cei (x.2.1 * 1000) x.1 else if x.2.1 ≤ 0 ∧ 0 ≤ x.2.2 then 1000000000 else 0
def nar (s : Int × Int) (x : Tri) : Int × Int := (max s.1 (gLo x), min s.2 (gHi x))
def left (s : Int × Int) : List Tri → Int × Int
 | [] => s
 | x :: r => left (nar s x) r
def first (s : Int × Int) : List Tri → Int → Int
 | [], _ => -1
 | x :: r, i => if vld (nar s x).1 (nar s x).2 = true then first (nar s x) r (i + 1) else i
theorem okP_iff {x : Tri} : okP x = true ↔ (-1000000000000000 ≤ x.1 ∧ x.1 ≤ 1000000000000000) ∧ x.2.1 ≤ x.2.2 ∧ -1000000000000000 ≤ x.2.1 ∧ x.2.2 ≤ 1000000000000000 := by
 simp [okP, inR_iff, vld_iff]
def Lies (g : Int) (x : Tri) : Prop := x.2.1 * 1000 ≤ x.1 * g ∧ x.1 * g ≤ x.2.2 * 1000
end
section
open Go.RowKit
theorem flo_t (a b : Int) (hb : b ≠ 0) : flo a b = if a.tmod b ≠ 0 ∧ (decide (a < 0) != decide (b < 0)) = true then a.tdiv b - 1 else a.tdiv b := by
 have key : ∀ Z m : Int, 0 ≤ Z → 0 < m → Z.tdiv m = Z / m ∧ Z.tmod m = Z % m := fun Z m h0 h1 => ⟨Int.tdiv_eq_ediv_of_nonneg h0, Int.tmod_eq_emod_of_nonneg h0⟩
 by_cases h1 : a < 0 <;> by_cases h2 : b < 0
 ·obtain ⟨Z, rfl⟩ : ∃ Z, a = -Z := ⟨-a, by omega⟩
  obtain ⟨m, rfl⟩ : ∃ m, b = -m := ⟨-b, by omega⟩
  obtain ⟨k1, k2⟩ := key Z m (by omega) (by omega)
  rw [Int.neg_tdiv, Int.tdiv_neg, Int.neg_tmod, Int.tmod_neg, k1, k2]
  unfold flo
  rw [if_neg (by omega), Int.neg_neg, Int.neg_neg, if_neg (fun h => absurd h.2 (by rw [decide_eq_true h1, decide_eq_true h2]; decide)), Int.neg_neg]
 ·obtain ⟨Z, rfl⟩ : ∃ Z, a = -Z := ⟨-a, by omega⟩
  obtain ⟨k1, k2⟩ := key Z b (by omega) (by omega)
  rw [Int.neg_tdiv, Int.neg_tmod, k1, k2]
  unfold flo
  rw [if_pos (by omega)]
  rcases neg_quo Z b (by omega) with ⟨c, d⟩ | ⟨c, d⟩
  ·rw [d, if_neg (by rw [c]; simp)]
  ·rw [d, if_pos ⟨by omega, by simp [h1, h2]; try omega⟩]; omega
 ·obtain ⟨m, rfl⟩ : ∃ m, b = -m := ⟨-b, by omega⟩
  obtain ⟨k1, k2⟩ := key a m (by omega) (by omega)
  rw [Int.tdiv_neg, Int.tmod_neg, k1, k2]
  unfold flo
  rw [if_neg (by omega), Int.neg_neg]
  rcases neg_quo a m (by omega) with ⟨c, d⟩ | ⟨c, d⟩
  ·rw [d, if_neg (by rw [c]; simp)]
  ·rw [d, if_pos ⟨by omega, by simp [h1, h2]; try omega⟩]; omega
 ·obtain ⟨k1, k2⟩ := key a b (by omega) (by omega)
  rw [k1, k2]
  unfold flo
  rw [if_pos (by omega), if_neg (by simp [h1, h2])]
theorem tdiv_fit (a b : Int) (h1 : -1000000000000000000 ≤ a) (h2 : a ≤ 1000000000000000000) (hb : b ≠ 0) : (-1000000000000000000 ≤ a.tdiv b ∧ a.tdiv b ≤ 1000000000000000000) ∧ (-1000000000000000000 ≤ a.tmod b ∧ a.tmod b ≤ 1000000000000000000) := by
 have k1 := Int.natAbs_tdiv a b
 have k2 := Int.natAbs_tmod a b
 have k3 := Nat.div_le_self a.natAbs b.natAbs
 have k4 := Nat.mod_le a.natAbs b.natAbs
 have k5 : (a.tdiv b).natAbs ≤ a.natAbs := by rw [k1]; exact k3
 have k6 : (a.tmod b).natAbs ≤ a.natAbs := by rw [k2]; exact k4
 omega
theorem flo_bd (a b : Int) (h1 : -1000000000000000000 ≤ a) (h2 : a ≤ 1000000000000000000) (hb : b ≠ 0) : -1000000000000000001 ≤ flo a b ∧ flo a b ≤ 1000000000000000000 := by
 have h := tdiv_fit a b h1 h2 hb
 rw [flo_t a b hb]
 split <;> omega
set_option maxHeartbeats 1000000 in
theorem down_any (a b : Int) (w : World) (h1 : -1000000000000000000 ≤ a) (h2 : a ≤ 1000000000000000000) (b1 : -1000000000000000 ≤ b) (b2 : b ≤ 1000000000000000) (hb : b ≠ 0) :
  Calls Tryz.prog 69 #[.int .i64 a, .int .i64 b] w fun e w' => e = .returned (.int .i64 (flo a b)) ∧ w = w' := by
 obtain ⟨⟨q1, q2⟩, r1, r2⟩ := tdiv_fit a b h1 h2 hb
 have HF := Lib.hid (flo_t a b hb)
 generalize flo a b = f at *
 have hb0 : (b == 0) = false := by rw [beq_eq_false_iff_ne]; exact hb
 have hb1 : ¬b = 0 := hb
 generalize hq : a.tdiv b = q at *
 generalize hr : a.tmod b = r at *
 clear hb
 by_cases hz : r = 0
 ·have hz1 : (r != 0) = false := by simp [hz]
  have HE : Hid (f = q) := Lib.hid (by rw [HF.out, if_neg (by simp [hz])])
  clear HF hz
  go_enter Tryz.func69, Tryz.ntmps69
  go_wp2
  go_ret
  exact ⟨by rw [HE.out]; rfl, rfl⟩
 ·have hz1 : (r != 0) = true := by rw [bne_iff_ne]; exact hz
  by_cases ha : a < 0 <;> by_cases hb' : b < 0
  all_goals have HE : Hid (f = if (decide (a < 0) != decide (b < 0)) = true then q - 1 else q) := Lib.hid (by rw [HF.out]; simp [hz])
  all_goals simp only [ha, hb', decide_true, decide_false, bne_self_eq_false, Bool.false_eq_true, if_false, Bool.true_bne, Bool.false_bne, Bool.not_false, if_true] at HE
  all_goals clear HF hz
  all_goals go_enter Tryz.func69, Tryz.ntmps69
  all_goals go_wp2
  all_goals go_ret
  all_goals exact ⟨by rw [HE.out]; rfl, rfl⟩
set_option maxHeartbeats 1000000 in
theorem up_any (a b : Int) (w : World) (h1 : -1000000000000000000 ≤ a) (h2 : a ≤ 1000000000000000000) (b1 : -1000000000000000 ≤ b) (b2 : b ≤ 1000000000000000) (hb : b ≠ 0) :
  Calls Tryz.prog 68 #[.int .i64 a, .int .i64 b] w fun e w' => e = .returned (.int .i64 (cei a b)) ∧ w = w' := by
 have hf := flo_bd (-a) b (by omega) (by omega) hb
 have HD := Lib.hid (fun W => down_any (-a) b W (by omega) (by omega) b1 b2 hb)
 unfold cei
 clear hb
 generalize flo (-a) b = f at *
 go_enter Tryz.func68, Tryz.ntmps68
 go_wp2_with (go_at_call 69; refine (HD.out _).mono ?_; rintro e w' ⟨rfl, rfl⟩)
 go_ret
 exact ⟨rfl, rfl⟩
end
section
open Go.RowKit
theorem resS {fn : Func} {p : Tmp} (h : fn.results = #[.cell p 41]) (tmps : Array Value) (W : World) (b : Nat) (x y : Value)
  (hp : tmps.getD p undef = .pointer (some ⟨b, 0, none⟩)) (h0 : (W.cell? ⟨b, 0, none⟩).isSome = true) (h1 : (W.cell? ⟨b, 1, none⟩).isSome = true) :
  (results fn tmps).run Tryz.prog ((W.setCell ⟨b, 0, none⟩ x).setCell ⟨b, 1, none⟩ y) = .ok (.agg #[x, y]) ((W.setCell ⟨b, 0, none⟩ x).setCell ⟨b, 1, none⟩ y) := by
 have n1 : (⟨b, 1, none⟩ : Addr) ≠ ⟨b, 0, none⟩ := by simp
 have n0 : (⟨b, 0, none⟩ : Addr) ≠ ⟨b, 1, none⟩ := by simp
 have e1 : ((W.setCell ⟨b, 0, none⟩ x).setCell ⟨b, 1, none⟩ y).cell? ⟨b, 0, none⟩ = some x :=
  (World.cell?_setCell_other _ _ _ _ n1).trans (World.cell?_setCell_same' _ _ _ h0)
 have e2 : ((W.setCell ⟨b, 0, none⟩ x).setCell ⟨b, 1, none⟩ y).cell? ⟨b, 1, none⟩ = some y :=
  World.cell?_setCell_same' _ _ _ (by rw [World.cell?_setCell_other _ _ _ _ n0]; exact h1)
 have hp' : tmps[p]?.getD undef = .pointer (some ⟨b, 0, none⟩) := by simpa using hp
 simp only [results, h]
 simp [Sem.run_bind, Result.andThen, go_sem, hp', e1, e2]
theorem resF {fn : Func} {p : Tmp} (h : fn.results = #[.cell p 41]) (tmps : Array Value) (W : World) (b : Nat) (x y : Value)
  (hp : tmps.getD p undef = .pointer (some ⟨b, 0, none⟩)) (h0 : (W.cell? ⟨b, 0, none⟩).isSome = true) (h1 : (W.cell? ⟨b, 1, none⟩).isSome = true) :
  (results fn tmps).run Tryz.prog ((W.setCell ⟨b, 0, none⟩ x).setCell ⟨b, 1, none⟩ y).drew = .ok (.agg #[x, y]) ((W.setCell ⟨b, 0, none⟩ x).setCell ⟨b, 1, none⟩ y).drew := by
 have n1 : (⟨b, 1, none⟩ : Addr) ≠ ⟨b, 0, none⟩ := by simp
 have n0 : (⟨b, 0, none⟩ : Addr) ≠ ⟨b, 1, none⟩ := by simp
 have e1 : ((W.setCell ⟨b, 0, none⟩ x).setCell ⟨b, 1, none⟩ y).drew.cell? ⟨b, 0, none⟩ = some x := by
  rw [World.cell?_drew]; exact (World.cell?_setCell_other _ _ _ _ n1).trans (World.cell?_setCell_same' _ _ _ h0)
 have e2 : ((W.setCell ⟨b, 0, none⟩ x).setCell ⟨b, 1, none⟩ y).drew.cell? ⟨b, 1, none⟩ = some y := by
  rw [World.cell?_drew]; exact World.cell?_setCell_same' _ _ _ (by rw [World.cell?_setCell_other _ _ _ _ n0]; exact h1)
 have hp' : tmps[p]?.getD undef = .pointer (some ⟨b, 0, none⟩) := by simpa using hp
 simp only [results, h]
 simp [Sem.run_bind, Result.andThen, go_sem, hp', e1, e2]
theorem resP {fn : Func} {p : Tmp} (h : fn.results = #[.cell p 41]) (tmps : Array Value) (W : World) (b : Nat) (x y : Value)
  (hp : tmps.getD p undef = .pointer (some ⟨b, 0, none⟩)) (h0 : W.cell? ⟨b, 0, none⟩ = some x) (h1 : W.cell? ⟨b, 1, none⟩ = some y) :
  (results fn tmps).run Tryz.prog W = .ok (.agg #[x, y]) W := by
 have hp' : tmps[p]?.getD undef = .pointer (some ⟨b, 0, none⟩) := by simpa using hp
 simp only [results, h]
 simp [Sem.run_bind, Result.andThen, go_sem, hp', h0, h1]
abbrev Pr (x : Tri) : Value := .agg #[.int .i64 x.1, .int .i64 x.2.1, .int .i64 x.2.2]
set_option maxHeartbeats 400000 in
theorem swithin_any (n a b : Int) (w : World) :
  Calls Tryz.prog 37 #[.int .i64 n, .int .i64 a, .int .i64 b] w fun e w' => e = .returned (.bool (wthn n a b)) ∧ w = w' := by
 go_enter Tryz.func37, Tryz.ntmps37
 go_wp2
 all_goals go_ret
 all_goals (simp [wthn]; try omega)
set_option maxHeartbeats 1000000 in
theorem validPair_any (v lo hi : Int) (w : World) :
  Calls Tryz.prog 61 #[Pr (v, lo, hi)] w (Ret (.bool (okP (v, lo, hi))) w) := by
 have e : okP (v, lo, hi) = (wthn v (-1000000000000000) 1000000000000000 && vld lo hi) := rfl
 have HE := Lib.hid e
 clear e
 by_cases h : wthn v (-1000000000000000) 1000000000000000 = true
 ·go_enter Tryz.func61, Tryz.ntmps61
  go_wp2_with (first | (go_at_call 37; refine (swithin_any _ _ _ _).mono ?_; rintro e w1 ⟨rfl, rfl⟩) | (go_at_call 31; refine (valid_any _ _ _).mono ?_; rintro e w1 ⟨rfl, hb⟩; have hB : Below w.heap.size w w1 := Below.trans (by (repeat first | with_reducible exact Below.refl _ _ | (with_reducible refine Below.alloc ?_ ?_ _; rotate_left; exact (by omega)))) (hb.mono (by (simp; done))); obtain ⟨hc, hf⟩ := bcell hb; have hs := hb.size; clear hb; (try simp only [World.size_alloc, World.size_setCell] at hc hf); (try simp only [World.size_alloc, World.size_setCell] at hs); (try have hs' := Nat.lt_of_succ_le hs); (try have hs0 : w.heap.size < w1.heap.size := by omega); (try have hs1 : w.heap.size + 1 < w1.heap.size := by omega); (try have hs2 : w.heap.size + 1 + 1 < w1.heap.size := by omega); (try have hs3 : w.heap.size + 1 + 1 + 1 < w1.heap.size := by omega); (try have iso : (w1.cell? ⟨w.heap.size, 0, none⟩).isSome = true := by (rw [hc _ _ (by omega)]; (try simp only [isSome_setCell]); first | assumption | go_simp)); (try have iso : (w1.cell? ⟨w.heap.size, 1, none⟩).isSome = true := by (rw [hc _ _ (by omega)]; (try simp only [isSome_setCell]); first | assumption | go_simp)); (try have iso : (w1.cell? ⟨w.heap.size + 1, 0, none⟩).isSome = true := by (rw [hc _ _ (by first | omega | (simp; done) | (simp; omega))]; (try simp only [isSome_setCell]); first | assumption | go_simp)); (try have iso : (w1.cell? ⟨w.heap.size + 1, 1, none⟩).isSome = true := by (rw [hc _ _ (by first | omega | (simp; done) | (simp; omega))]; (try simp only [isSome_setCell]); first | assumption | go_simp)); (try have iso : (w1.cell? ⟨w.heap.size + 1 + 1, 0, none⟩).isSome = true := by (rw [hc _ _ (by first | omega | (simp; done) | (simp; omega))]; (try simp only [isSome_setCell]); first | assumption | go_simp)); (try have iso : (w1.cell? ⟨w.heap.size + 1 + 1, 1, none⟩).isSome = true := by (rw [hc _ _ (by first | omega | (simp; done) | (simp; omega))]; (try simp only [isSome_setCell]); first | assumption | go_simp))))
  go_ret
  exact ⟨by rw [HE.out, h]; simp, by (repeat with_reducible assumption)⟩
 ·have h : wthn v (-1000000000000000) 1000000000000000 = false := by simpa using h
  go_enter Tryz.func61, Tryz.ntmps61
  go_wp2_with (go_at_call 37; refine (swithin_any _ _ _ _).mono ?_; rintro e w1 ⟨rfl, rfl⟩)
  go_ret
  exact ⟨by rw [HE.out, h]; simp, by (repeat first | with_reducible exact Below.refl _ _ | (with_reducible refine Below.alloc ?_ ?_ _; rotate_left; exact (by omega)))⟩
set_option maxHeartbeats 400000 in
theorem everyGain_any (w : World) :
  Calls Tryz.prog 105 #[] w (Ret (Sp (-1000000000) 1000000000) w) := by
 go_enter Tryz.func105, Tryz.ntmps105
 go_wp2_with fail
 exact bodyPost_ret (resP Tryz.results105 _ _ _ _ _ rfl (by go_simp) (by go_simp)) rfl ⟨rfl, by (repeat first | with_reducible exact Below.refl _ _ | (with_reducible refine Below.alloc ?_ ?_ _; rotate_left; exact (by omega)))⟩
end
end Go.Proofs.YtapldonpflgnfaaGreatDoor
