import Derived.Test.YtfpjhobhmcfpnaaDoorJAO
import Derived.Test.YtfpjhobhmcfpnaaDoorJAU
import Derived.Test.YtfpjhobhmcfpnaaDoorJAZ
import Derived.Test.YtfpjhobhmcfpnaaDoorJBB
import Derived.Test.YtfpjhobhmcfpnaaDoorJBC
section
/- Package sense: explainable, over this seat's translation (written by mk_com.py). -/
namespace Go.Proofs.YtfpjhobhmcfpnaaDoor
set_option linter.unusedVariables false
set_option linter.unusedSimpArgs false
open Go.RowKit Go.Shelf

def explB (M : MachD) (C : CurD) (zs : List SpanD) : Bool := validC M C && readsB M zs

set_option maxRecDepth 100000 in
set_option maxHeartbeats 8000000 in
theorem explainable_any (R : MachR) (M : MachD) (Qr : CurR) (Cd : CurD) (F : Option Addr) (nf cf : Nat) (zs : List SpanD) (w : World) (hM : IsM w R M) (hC : IsC w Qr Cd) (hF : IsT 2 SpanD.cells w F nf zs) (hn : nf ≤ 1000000000000000) :
    Calls Tryd.prog 43 #[.agg (machCells R M), Qr.v, .slice F nf cf] w (Ret (.bool (explB M Cd zs)) w) := by
  have HV0 := Lib.hid (fun W (hb : Below w.heap.size w W) => validCurrents_any R M Qr Cd W (hM.below hb) (hC.below hb))
  have HR0 := Lib.hid (fun W (hb : Below w.heap.size w W) => validReadings_any R M F nf cf zs W (hM.below hb) (hF.below hb) hn)
  unfold explB
  clear hM hC hF
  generalize validC M Cd = V at *
  generalize readsB M zs = U at *
  obtain ⟨A, B, Cl, D, la, ca, lb, cb, lc, cl, ld, cd⟩ := R
  obtain ⟨name, coils, shells, limits, ⟨r, z, nr, nz, step⟩, sensors⟩ := M
  obtain ⟨A1, B1, C1, na, qa, nb, qb, nc, qc⟩ := Qr
  dsimp only [CurR.v] at *
  have HV := Lib.hid (show ∀ W, Below w.heap.size w W → Calls Tryd.prog 23 #[.agg #[.string name, .slice A la ca, .slice B lb cb, .slice Cl lc cl, .int .i64 r, .int .i64 z, .int .i64 nr, .int .i64 nz, .int .i64 step, .slice D ld cd], .agg #[.slice A1 na qa, .slice B1 nb qb, .slice C1 nc qc]] W (Ret (.bool V) W) from HV0.out)
  have HR := Lib.hid (show ∀ W, Below w.heap.size w W → Calls Tryd.prog 83 #[.agg #[.string name, .slice A la ca, .slice B lb cb, .slice Cl lc cl, .int .i64 r, .int .i64 z, .int .i64 nr, .int .i64 nz, .int .i64 step, .slice D ld cd], .slice F nf cf] W (Ret (.bool U) W) from HR0.out)
  clear HV0 HR0
  show Calls Tryd.prog 43 #[.agg #[.string name, .slice A la ca, .slice B lb cb, .slice Cl lc cl, .int .i64 r, .int .i64 z, .int .i64 nr, .int .i64 nz, .int .i64 step, .slice D ld cd], .agg #[.slice A1 na qa, .slice B1 nb qb, .slice C1 nc qc], .slice F nf cf] w _
  go_enter Tryd.func43, Tryd.ntmps43
  go_upto_region 1 with (fail)
  have Fm : Hid (RowL (w.heap.size) [.string name, .slice A la ca, .slice B lb cb, .slice Cl lc cl, .int .i64 r, .int .i64 z, .int .i64 nr, .int .i64 nz, .int .i64 step, .slice D ld cd] ((w.alloc (.cells #[.string name, .slice A la ca, .slice B lb cb, .slice Cl lc cl, .int .i64 r, .int .i64 z, .int .i64 nr, .int .i64 nz, .int .i64 step, .slice D ld cd] 29)).alloc (.cells #[.slice A1 na qa, .slice B1 nb qb, .slice C1 nc qc] 32))) := Lib.hid (by have h := RowL.new w #[.string name, .slice A la ca, .slice B lb cb, .slice Cl lc cl, .int .i64 r, .int .i64 z, .int .i64 nr, .int .i64 nz, .int .i64 step, .slice D ld cd] 29; (try simp only [World.size_alloc] at h); exact (h.alloc _))
  have Fc : Hid (RowL (w.heap.size + 1) [.slice A1 na qa, .slice B1 nb qb, .slice C1 nc qc] ((w.alloc (.cells #[.string name, .slice A la ca, .slice B lb cb, .slice Cl lc cl, .int .i64 r, .int .i64 z, .int .i64 nr, .int .i64 nz, .int .i64 step, .slice D ld cd] 29)).alloc (.cells #[.slice A1 na qa, .slice B1 nb qb, .slice C1 nc qc] 32))) := Lib.hid (by have h := RowL.new (w.alloc (.cells #[.string name, .slice A la ca, .slice B lb cb, .slice Cl lc cl, .int .i64 r, .int .i64 z, .int .i64 nr, .int .i64 nz, .int .i64 step, .slice D ld cd] 29)) #[.slice A1 na qa, .slice B1 nb qb, .slice C1 nc qc] 32; (try simp only [World.size_alloc] at h); exact h)
  have hB0 : Below w.heap.size w ((w.alloc (.cells #[.string name, .slice A la ca, .slice B lb cb, .slice Cl lc cl, .int .i64 r, .int .i64 z, .int .i64 nr, .int .i64 nz, .int .i64 step, .slice D ld cd] 29)).alloc (.cells #[.slice A1 na qa, .slice B1 nb qb, .slice C1 nc qc] 32)) := by (with_reducible repeat first | exact Below.refl _ _ | assumption | ((first | refine Below.setCell ?_ ?_ _ | refine Below.alloc ?_ ?_ _); rotate_left; exact (by first | omega | (simp; done) | (simp; omega))) | refine Below.drew ?_ | refine Below_drewN ?_ _)
  have sW0 : w.heap.size + 1 < ((w.alloc (.cells #[.string name, .slice A la ca, .slice B lb cb, .slice Cl lc cl, .int .i64 r, .int .i64 z, .int .i64 nr, .int .i64 nz, .int .i64 step, .slice D ld cd] 29)).alloc (.cells #[.slice A1 na qa, .slice B1 nb qb, .slice C1 nc qc] 32)).heap.size := by simp only [World.size_alloc]; omega
  obtain ⟨W0, hW0⟩ : ∃ W, ((w.alloc (.cells #[.string name, .slice A la ca, .slice B lb cb, .slice Cl lc cl, .int .i64 r, .int .i64 z, .int .i64 nr, .int .i64 nz, .int .i64 step, .slice D ld cd] 29)).alloc (.cells #[.slice A1 na qa, .slice B1 nb qb, .slice C1 nc qc] 32)) = W := ⟨_, rfl⟩
  rw [hW0] at Fm Fc hB0 sW0 ⊢
  clear hW0
  have m0 := Fm.out.cell 0 (.string name) rfl
  have m1 := Fm.out.cell 1 (.slice A la ca) rfl
  have m2 := Fm.out.cell 2 (.slice B lb cb) rfl
  have m3 := Fm.out.cell 3 (.slice Cl lc cl) rfl
  have m4 := Fm.out.cell 4 (.int .i64 r) rfl
  have m5 := Fm.out.cell 5 (.int .i64 z) rfl
  have m6 := Fm.out.cell 6 (.int .i64 nr) rfl
  have m7 := Fm.out.cell 7 (.int .i64 nz) rfl
  have m8 := Fm.out.cell 8 (.int .i64 step) rfl
  have m9 := Fm.out.cell 9 (.slice D ld cd) rfl
  have c0 := Fc.out.cell 0 (.slice A1 na qa) rfl
  have c1 := Fc.out.cell 1 (.slice B1 nb qb) rfl
  have c2 := Fc.out.cell 2 (.slice C1 nc qc) rfl
  cases V
  · go_wp2_with fail
    refine (HV.out _ hB0).mono ?_
    rintro e w1 ⟨rfl, hb⟩
    have hB1 := hB0.trans (hb.mono hB0.size)
    clear hb
    go_wp2_with fail
    go_ret
    exact ⟨rfl, by (with_reducible repeat first | exact Below.refl _ _ | assumption | ((first | refine Below.setCell ?_ ?_ _ | refine Below.alloc ?_ ?_ _); rotate_left; exact (by first | omega | (simp; done) | (simp; omega))) | refine Below.drew ?_ | refine Below_drewN ?_ _)⟩
  · go_wp2_with fail
    refine (HV.out _ hB0).mono ?_
    rintro e w1 ⟨rfl, hb⟩
    clear m0 m1 m2 m3 m4 m5 m6 m7 m8 m9 c0 c1 c2
    have Gm := Lib.hid (Fm.out.below hb)
    clear Fm
    have Fm := Lib.hid Gm.out
    clear Gm
    have Gc := Lib.hid (Fc.out.below hb)
    clear Fc
    have Fc := Lib.hid Gc.out
    clear Gc
    have m0 := Fm.out.cell 0 (.string name) rfl
    have m1 := Fm.out.cell 1 (.slice A la ca) rfl
    have m2 := Fm.out.cell 2 (.slice B lb cb) rfl
    have m3 := Fm.out.cell 3 (.slice Cl lc cl) rfl
    have m4 := Fm.out.cell 4 (.int .i64 r) rfl
    have m5 := Fm.out.cell 5 (.int .i64 z) rfl
    have m6 := Fm.out.cell 6 (.int .i64 nr) rfl
    have m7 := Fm.out.cell 7 (.int .i64 nz) rfl
    have m8 := Fm.out.cell 8 (.int .i64 step) rfl
    have m9 := Fm.out.cell 9 (.slice D ld cd) rfl
    have c0 := Fc.out.cell 0 (.slice A1 na qa) rfl
    have c1 := Fc.out.cell 1 (.slice B1 nb qb) rfl
    have c2 := Fc.out.cell 2 (.slice C1 nc qc) rfl
    have hB1 := hB0.trans (hb.mono hB0.size)
    clear hb
    go_wp2_with fail
    refine (HR.out _ (by (with_reducible repeat first | exact Below.refl _ _ | assumption | ((first | refine Below.setCell ?_ ?_ _ | refine Below.alloc ?_ ?_ _); rotate_left; exact (by first | omega | (simp; done) | (simp; omega))) | refine Below.drew ?_ | refine Below_drewN ?_ _))).mono ?_
    rintro e w2 ⟨rfl, hb⟩
    have hB2 := hB1.trans (hb.mono hB1.size)
    clear hb
    go_wp2_with fail
    go_ret
    exact ⟨rfl, by (with_reducible repeat first | exact Below.refl _ _ | assumption | ((first | refine Below.setCell ?_ ?_ _ | refine Below.alloc ?_ ?_ _); rotate_left; exact (by first | omega | (simp; done) | (simp; omega))) | refine Below.drew ?_ | refine Below_drewN ?_ _)⟩

end Go.Proofs.YtfpjhobhmcfpnaaDoor
end
section
/- Package sense: claimsOf, over this seat's translation (written by mk_cof.py). -/
namespace Go.Proofs.YtfpjhobhmcfpnaaDoor
set_option linter.unusedVariables false
set_option linter.unusedSimpArgs false
open Go.RowKit Go.Shelf

/-- A list of lists in new memory: block p names the blocks L, of which the k-th holds T k. -/
def CofAt (n ld : Nat) (T : Nat → List Value) (w : World) (e : Ending) (w' : World) : Prop :=
  ∃ (p : Nat) (L : List Nat), e = .returned (.slice (some ⟨p, 0, none⟩) n n) ∧ L.length = n ∧ RowL p (L.map fun b => Value.slice (some ⟨b, 0, none⟩) ld ld) w' ∧ (∀ (k b : Nat), L[k]? = some b → RowL b (T k) w') ∧ Below w.heap.size w w'
theorem infoC : (Tryd.prog.info? 98).map (fun i => (i.zero, i.size, i.bytes)) = some (some (.slice none 0 0), 1, 24) := by kernel_rfl
theorem fill_snoc (X : List Value) (n : Nat) (z v : Value) (h : X.length < n) : (X ++ List.replicate (n - X.length) z).set X.length v = (X ++ [v]) ++ List.replicate (n - (X.length + 1)) z := by
  rw [List.set_append_right _ _ (Nat.le_refl _), Nat.sub_self, show n - X.length = (n - (X.length + 1)) + 1 by omega, List.replicate_succ, List.set_cons_zero, List.append_assoc]; rfl

set_option maxRecDepth 100000 in
set_option maxHeartbeats 8000000 in
theorem claimsOf_any (R : MachR) (M : MachD) (Qr : CurR) (Cd : CurD) (F : Option Addr) (nf cf : Nat) (zs : List SpanD) (w : World) (hM : IsM w R M) (hC : IsC w Qr Cd) (hF : IsT 2 SpanD.cells w F nf zs) (he : explB M Cd zs = true) :
    Calls Tryd.prog 44 #[.agg (machCells R M), Qr.v, .slice F nf cf] w (CofAt Qr.lc R.ld (fun k => (clL M (bgL M Cd) zs (k : Int)).flatMap SpanD.cells) w) := by
  unfold explB at he
  rw [Bool.and_eq_true] at he
  have hv := fit2_iff.1 he.1
  have hr := he.2
  unfold readsB at hr
  rw [Bool.and_eq_true, Bool.and_eq_true, decide_eq_true_iff, decide_eq_true_iff] at hr
  have hf1 := hF.1
  have hl := hM.sensors.1
  have hp := hC.plasma.1
  have hp2 := hv.plasma.1
  have hs := sound_of hv.check
  have hg := cells_fine hs.grid
  have hld : R.ld ≤ 1000 := by have := hs.sensors.1; omega
  have hlc : Qr.lc ≤ 1000 := by omega
  have hnf : nf = R.ld := by omega
  subst hnf
  have HBS0 := Lib.hid (fun W (hb : Below w.heap.size w W) => backgrounds_any R M Qr Cd W (hM.below hb) (hC.below hb) hld)
  have HCI0 := Lib.hid (fun (pb k : Nat) (hk : k < Qr.lc) W (hb : Below w.heap.size w W) (hR : RowL pb ((bgL M Cd).map (Value.int .i64)) W) => claimsIn_any R M (some ⟨pb, 0, none⟩) F R.ld R.ld R.ld cf (bgL M Cd) zs (k : Int) W (hM.below hb) (hR.isI (by unfold bgL; rw [List.length_map, List.length_range, hl])) (hF.below hb) hv.check (wthn_iff.2 (by omega)) rfl rfl
    (fun b hb => by unfold bgL at hb; obtain ⟨k, -, rfl⟩ := List.mem_map.1 hb; exact backL_bd M Cd _) (fun s hs => by have := List.all_eq_true.1 hr.2.2 s hs; exact this))
  clear hM hC hF he hv hr hf1 hl hp hp2 hs hg
  generalize (bgL M Cd).map (Value.int .i64) = TB at *
  obtain ⟨TC, hTC⟩ : ∃ TC : Nat → List Value, ∀ k : Nat, (clL M (bgL M Cd) zs (k : Int)).flatMap SpanD.cells = TC k := ⟨fun k => (clL M (bgL M Cd) zs (k : Int)).flatMap SpanD.cells, fun _ => rfl⟩
  rw [show (fun k : Nat => (clL M (bgL M Cd) zs (k : Int)).flatMap SpanD.cells) = TC from funext hTC]
  have HCI1 := Lib.hid (fun (pb k : Nat) (hk : k < Qr.lc) W (hb : Below w.heap.size w W) (hR : RowL pb TB W) => (by have h := HCI0.out pb k hk W hb hR; rw [hTC] at h; exact h : Calls Tryd.prog 47 #[.agg (machCells R M), .slice (some ⟨pb, 0, none⟩) R.ld R.ld, .slice F R.ld cf, .int .i64 (k : Int)] W (MadeAt R.ld (TC k) W)))
  clear HCI0 hTC
  obtain ⟨A, B, Cl, D, la, ca, lb, cb, lc, cl, ld, cd⟩ := R
  obtain ⟨name, coils, shells, limits, ⟨r, z, nr, nz, step⟩, sensors⟩ := M
  obtain ⟨A1, B1, C1, na, qa, nb, qb, nc, qc⟩ := Qr
  dsimp only [CurR.v] at *
  have HBS := Lib.hid (show ∀ W, Below w.heap.size w W → Calls Tryd.prog 48 #[.agg #[.string name, .slice A la ca, .slice B lb cb, .slice Cl lc cl, .int .i64 r, .int .i64 z, .int .i64 nr, .int .i64 nz, .int .i64 step, .slice D ld cd], .agg #[.slice A1 na qa, .slice B1 nb qb, .slice C1 nc qc]] W (MadeAt ld TB W) from HBS0.out)
  have HCI := Lib.hid (show ∀ (pb k : Nat), k < nc → ∀ W, Below w.heap.size w W → RowL pb TB W → Calls Tryd.prog 47 #[.agg #[.string name, .slice A la ca, .slice B lb cb, .slice Cl lc cl, .int .i64 r, .int .i64 z, .int .i64 nr, .int .i64 nz, .int .i64 step, .slice D ld cd], .slice (some ⟨pb, 0, none⟩) ld ld, .slice F ld cf, .int .i64 (k : Int)] W (MadeAt ld (TC k) W) from HCI1.out)
  clear HBS0 HCI1
  have hmk := run_make_row' (P := Tryd.prog) 96 98 (.slice none 0 0) 24 Tryd.underlying96 infoC rfl .i64 .i64 nc (by omega) (by omega)
  show Calls Tryd.prog 44 #[.agg #[.string name, .slice A la ca, .slice B lb cb, .slice Cl lc cl, .int .i64 r, .int .i64 z, .int .i64 nr, .int .i64 nz, .int .i64 step, .slice D ld cd], .agg #[.slice A1 na qa, .slice B1 nb qb, .slice C1 nc qc], .slice F ld cf] w _
  go_enter Tryd.func44, Tryd.ntmps44
  go_upto_region 1 with (fail)
  have Fm : Hid (RowL (w.heap.size) [.string name, .slice A la ca, .slice B lb cb, .slice Cl lc cl, .int .i64 r, .int .i64 z, .int .i64 nr, .int .i64 nz, .int .i64 step, .slice D ld cd] ((w.alloc (.cells #[.string name, .slice A la ca, .slice B lb cb, .slice Cl lc cl, .int .i64 r, .int .i64 z, .int .i64 nr, .int .i64 nz, .int .i64 step, .slice D ld cd] 29)).alloc (.cells #[.slice A1 na qa, .slice B1 nb qb, .slice C1 nc qc] 32))) := Lib.hid (by have h := RowL.new w #[.string name, .slice A la ca, .slice B lb cb, .slice Cl lc cl, .int .i64 r, .int .i64 z, .int .i64 nr, .int .i64 nz, .int .i64 step, .slice D ld cd] 29; (try simp only [World.size_alloc] at h); exact (h.alloc _))
  have Fc : Hid (RowL (w.heap.size + 1) [.slice A1 na qa, .slice B1 nb qb, .slice C1 nc qc] ((w.alloc (.cells #[.string name, .slice A la ca, .slice B lb cb, .slice Cl lc cl, .int .i64 r, .int .i64 z, .int .i64 nr, .int .i64 nz, .int .i64 step, .slice D ld cd] 29)).alloc (.cells #[.slice A1 na qa, .slice B1 nb qb, .slice C1 nc qc] 32))) := Lib.hid (by have h := RowL.new (w.alloc (.cells #[.string name, .slice A la ca, .slice B lb cb, .slice Cl lc cl, .int .i64 r, .int .i64 z, .int .i64 nr, .int .i64 nz, .int .i64 step, .slice D ld cd] 29)) #[.slice A1 na qa, .slice B1 nb qb, .slice C1 nc qc] 32; (try simp only [World.size_alloc] at h); exact h)
  have hB0 : Below w.heap.size w ((w.alloc (.cells #[.string name, .slice A la ca, .slice B lb cb, .slice Cl lc cl, .int .i64 r, .int .i64 z, .int .i64 nr, .int .i64 nz, .int .i64 step, .slice D ld cd] 29)).alloc (.cells #[.slice A1 na qa, .slice B1 nb qb, .slice C1 nc qc] 32)) := by (with_reducible repeat first | exact Below.refl _ _ | assumption | ((first | refine Below.setCell ?_ ?_ _ | refine Below.alloc ?_ ?_ _); rotate_left; exact (by first | omega | (simp; done) | (simp; omega))) | refine Below.drew ?_ | refine Below_drewN ?_ _)
  have sW0 : w.heap.size + 1 < ((w.alloc (.cells #[.string name, .slice A la ca, .slice B lb cb, .slice Cl lc cl, .int .i64 r, .int .i64 z, .int .i64 nr, .int .i64 nz, .int .i64 step, .slice D ld cd] 29)).alloc (.cells #[.slice A1 na qa, .slice B1 nb qb, .slice C1 nc qc] 32)).heap.size := by simp only [World.size_alloc]; omega
  obtain ⟨W0, hW0⟩ : ∃ W, ((w.alloc (.cells #[.string name, .slice A la ca, .slice B lb cb, .slice Cl lc cl, .int .i64 r, .int .i64 z, .int .i64 nr, .int .i64 nz, .int .i64 step, .slice D ld cd] 29)).alloc (.cells #[.slice A1 na qa, .slice B1 nb qb, .slice C1 nc qc] 32)) = W := ⟨_, rfl⟩
  rw [hW0] at Fm Fc hB0 sW0 ⊢
  clear hW0
  have m0 := Fm.out.cell 0 (.string name) rfl
  have m1 := Fm.out.cell 1 (.slice A la ca) rfl
  have m2 := Fm.out.cell 2 (.slice B lb cb) rfl
  have m3 := Fm.out.cell 3 (.slice Cl lc cl) rfl
  have m4 := Fm.out.cell 4 (.int .i64 r) rfl
  have m5 := Fm.out.cell 5 (.int .i64 z) rfl
  have m6 := Fm.out.cell 6 (.int .i64 nr) rfl
  have m7 := Fm.out.cell 7 (.int .i64 nz) rfl
  have m8 := Fm.out.cell 8 (.int .i64 step) rfl
  have m9 := Fm.out.cell 9 (.slice D ld cd) rfl
  have c0 := Fc.out.cell 0 (.slice A1 na qa) rfl
  have c1 := Fc.out.cell 1 (.slice B1 nb qb) rfl
  have c2 := Fc.out.cell 2 (.slice C1 nc qc) rfl
  go_wp2_with fail
  refine (HBS.out _ hB0).mono ?_
  rintro e w1 ⟨pb, rfl, hpb, hrb, hb⟩
  clear m0 m1 m2 m3 m4 m5 m6 m7 m8 m9 c0 c1 c2
  have Gm := Lib.hid (Fm.out.below hb)
  clear Fm
  have Fm := Lib.hid Gm.out
  clear Gm
  have Gc := Lib.hid (Fc.out.below hb)
  clear Fc
  have Fc := Lib.hid Gc.out
  clear Gc
  have m0 := Fm.out.cell 0 (.string name) rfl
  have m1 := Fm.out.cell 1 (.slice A la ca) rfl
  have m2 := Fm.out.cell 2 (.slice B lb cb) rfl
  have m3 := Fm.out.cell 3 (.slice Cl lc cl) rfl
  have m4 := Fm.out.cell 4 (.int .i64 r) rfl
  have m5 := Fm.out.cell 5 (.int .i64 z) rfl
  have m6 := Fm.out.cell 6 (.int .i64 nr) rfl
  have m7 := Fm.out.cell 7 (.int .i64 nz) rfl
  have m8 := Fm.out.cell 8 (.int .i64 step) rfl
  have m9 := Fm.out.cell 9 (.slice D ld cd) rfl
  have c0 := Fc.out.cell 0 (.slice A1 na qa) rfl
  have c1 := Fc.out.cell 1 (.slice B1 nb qb) rfl
  have c2 := Fc.out.cell 2 (.slice C1 nc qc) rfl
  have hB1 := hB0.trans (hb.mono hB0.size)
  have hz1 : w.heap.size + 1 < w1.heap.size := Nat.lt_of_lt_of_le sW0 hb.size
  have hpl := hrb.lt
  have HRB := Lib.hid hrb
  clear hb hB0 hrb HBS
  go_upto_region 3 with (fail)
  have hR0 : Hid (RowL w1.heap.size (([] : List Nat).map (fun b : Nat => Value.slice (some ⟨b, 0, none⟩) ld ld) ++ List.replicate (nc - 0) (.slice none 0 0)) (w1.alloc (.cells (madeCells #[.slice none 0 0] nc) 98))) := Lib.hid (by
    have h := RowL.new w1 (madeCells #[.slice none 0 0] nc) 98
    rw [toList_madeCells_one] at h
    exact h)
  have hb1 : Below w1.heap.size w1 (w1.alloc (.cells (madeCells #[.slice none 0 0] nc) 98)) := by (with_reducible repeat first | exact Below.refl _ _ | assumption | ((first | refine Below.setCell ?_ ?_ _ | refine Below.alloc ?_ ?_ _); rotate_left; exact (by first | omega | (simp; done) | (simp; omega))) | refine Below.drew ?_ | refine Below_drewN ?_ _)
  obtain ⟨W2, hW2⟩ : ∃ W, w1.alloc (.cells (madeCells #[.slice none 0 0] nc) 98) = W := ⟨_, rfl⟩
  rw [hW2] at hR0 hb1 ⊢
  clear hW2 hmk m0 m1 m2 m3 m4 m5 m6 m7 m8 m9 c0 c1 c2
  go_wp2_with fail
  go_loopw [19] (fun i wr => ∃ (j : Nat) (L : List Nat), j ≤ nc ∧ i = .int .i64 j ∧ Hid (L.length = j ∧ RowL w1.heap.size (L.map (fun b : Nat => Value.slice (some ⟨b, 0, none⟩) ld ld) ++ List.replicate (nc - j) (.slice none 0 0)) wr ∧ ∀ (k b : Nat), L[k]? = some b → RowL b (TC k) wr ∧ b ≠ w1.heap.size) ∧ Below w1.heap.size w1 wr) (fun i _ => nc - (intOf i).toNat)
  case atStart => exact ⟨0, [], Nat.zero_le _, rfl, Lib.hid ⟨rfl, hR0.out, fun k b h => by simp at h⟩, hb1⟩
  case round =>
    obtain ⟨j, L, hj, rfl, hR, hB⟩ := hrel
    have sz := hB.size
    have hBw := hB1.trans (hB.mono hB1.size)
    by_cases hlt : j < nc
    · have hLl := hR.out.1
      have rl : (L.map (fun b : Nat => Value.slice (some ⟨b, 0, none⟩) ld ld)).length = j := by rw [List.length_map]; exact hLl
      have r0 := hR.out.2.1.cell j (.slice none 0 0) (by rw [List.getElem?_append_right (by omega), rl, Nat.sub_self, List.getElem?_replicate, if_pos (by omega)])
      have rf := hR.out.2.1.mark j (by rw [List.length_append, rl, List.length_replicate]; omega)
      have m0 := (Fm.out.below hB).cell 0 (.string name) rfl
      have m1 := (Fm.out.below hB).cell 1 (.slice A la ca) rfl
      have m2 := (Fm.out.below hB).cell 2 (.slice B lb cb) rfl
      have m3 := (Fm.out.below hB).cell 3 (.slice Cl lc cl) rfl
      have m4 := (Fm.out.below hB).cell 4 (.int .i64 r) rfl
      have m5 := (Fm.out.below hB).cell 5 (.int .i64 z) rfl
      have m6 := (Fm.out.below hB).cell 6 (.int .i64 nr) rfl
      have m7 := (Fm.out.below hB).cell 7 (.int .i64 nz) rfl
      have m8 := (Fm.out.below hB).cell 8 (.int .i64 step) rfl
      have m9 := (Fm.out.below hB).cell 9 (.slice D ld cd) rfl
      have HC := Lib.hid (HCI.out pb j hlt wr hBw (HRB.out.below hB))
      have jn : ((j : Int)).toNat = j := by omega
      have j0 : (0 : Int) ≤ j := by omega
      have HLl := Lib.hid hLl
      have Hrl := Lib.hid rl
      clear hR0 hb1 hLl rl
      go_wp2_with fail
      refine HC.out.mono ?_
      rintro e w2 ⟨b, rfl, hbl, hrb, hb⟩
      have hR2 := hR.out.2.1.below hb
      have hpl2 : w1.heap.size < w2.heap.size := hR2.lt
      have hpw := hR.out.2.1.lt
      clear r0 rf
      have r0 := hR2.cell j (.slice none 0 0) (by rw [List.getElem?_append_right (by rw [Hrl.out]; omega), Hrl.out, Nat.sub_self, List.getElem?_replicate, if_pos (by omega)])
      have rf := hR2.mark j (by rw [List.length_append, Hrl.out, List.length_replicate]; omega)
      have hne : b ≠ w1.heap.size := by omega
      have HNX : Hid ((L ++ [b]).length = j + 1 ∧ RowL w1.heap.size ((L ++ [b]).map (fun b : Nat => Value.slice (some ⟨b, 0, none⟩) ld ld) ++ List.replicate (nc - (j + 1)) (.slice none 0 0)) (w2.setCell ⟨w1.heap.size, j, none⟩ (.slice (some ⟨b, 0, none⟩) ld ld)) ∧ ∀ (k c : Nat), (L ++ [b])[k]? = some c → RowL c (TC k) (w2.setCell ⟨w1.heap.size, j, none⟩ (.slice (some ⟨b, 0, none⟩) ld ld)) ∧ c ≠ w1.heap.size) := Lib.hid (by
        refine ⟨by rw [List.length_append, HLl.out]; rfl, ?_, fun k c hk => ?_⟩
        · have h := hR2.put j (.slice (some ⟨b, 0, none⟩) ld ld) (by rw [List.length_append, Hrl.out, List.length_replicate]; omega)
          have h2 := fill_snoc (L.map (fun b : Nat => Value.slice (some ⟨b, 0, none⟩) ld ld)) nc (.slice none 0 0) (.slice (some ⟨b, 0, none⟩) ld ld) (by rw [Hrl.out]; exact hlt)
          rw [Hrl.out] at h2
          rw [h2] at h
          rw [List.map_append]
          exact h
        · by_cases hkj : k < j
          · rw [List.getElem?_append_left (by rw [HLl.out]; exact hkj)] at hk
            obtain ⟨h1, h2⟩ := hR.out.2.2 k c hk
            exact ⟨(h1.below hb).far (by dsimp only; exact h2) _, h2⟩
          · rw [List.getElem?_append_right (by rw [HLl.out]; omega), HLl.out] at hk
            have hk0 : k - j = 0 := by
              have := (List.getElem?_eq_some_iff.1 hk).1
              simp at this; omega
            rw [hk0] at hk
            obtain rfl : b = c := by simpa using hk
            obtain rfl : k = j := by omega
            exact ⟨hrb.far (by dsimp only; exact hne) _, hne⟩)
      have hB2 := hB.trans (hb.mono hB.size)
      have sz2 := hb.size
      clear hR2 hb hrb m0 m1 m2 m3 m4 m5 m6 m7 m8 m9 HC hR
      go_wp2_with fail
      go_roundw
      case rel => exact ⟨j + 1, L ++ [b], by omega, by go_num, HNX, by (with_reducible repeat first | exact Below.refl _ _ | assumption | ((first | refine Below.setCell ?_ ?_ _ | refine Below.alloc ?_ ?_ _); rotate_left; exact (by first | omega | (simp; done) | (simp; omega))) | refine Below.drew ?_ | refine Below_drewN ?_ _)⟩
      case measure => simp [intOf]; omega
    · obtain rfl : j = nc := by omega
      clear hR0 hb1
      go_wp2_with fail
      go_ret
      obtain ⟨h1, h2, h3⟩ := hR.out
      rw [Nat.sub_self, List.replicate_zero, List.append_nil] at h2
      exact ⟨w1.heap.size, L, rfl, h1, h2, fun k b h => (h3 k b h).1, hBw⟩

end Go.Proofs.YtfpjhobhmcfpnaaDoor
end
section
/- Package sense: ValidFaults without faults, faulty without faults, Mix of zeros, over this seat's translation. -/
namespace Go.Proofs.YtfpjhobhmcfpnaaDoor
set_option linter.unusedVariables false
set_option linter.unusedSimpArgs false
open Go.RowKit Go.Shelf

set_option maxHeartbeats 2000000 in
theorem validFaults_nil (R : MachR) (M : MachD) (w : World) (hM : IsM w R M) (hc : checkC M = 0) :
    Calls Tryd.prog 37 #[.agg (machCells R M), .slice none 0 0] w (Ret (.bool true) w) := by
  have H0 := Lib.hid (fun W (hb : Below w.heap.size w W) => by have := check_any R M W (hM.below hb); rw [hc] at this; exact this)
  have HF := Lib.hid (fun (c0 : Nat) W => containsFault1 75 c0 (fun _ => false) none 0 0 [] W (IsT.nil _ _ _ _) (by omega) (fun args W => enters_of Tryd.func75 (by kernel_rfl) rfl args W) (fun x W' hx => by cases hx))
  clear hM hc
  obtain ⟨A, B, C, D, la, ca, lb, cb, lc, cc, ld, cd⟩ := R
  obtain ⟨name, coils, shells, limits, ⟨r, z, nr, nz, step⟩, sensors⟩ := M
  have H0 := Lib.hid (show ∀ W, Below w.heap.size w W → Calls Tryd.prog 54 #[.agg #[.string name, .slice A la ca, .slice B lb cb, .slice C lc cc, .int .i64 r, .int .i64 z, .int .i64 nr, .int .i64 nz, .int .i64 step, .slice D ld cd]] W (Ret (.int .i64 0) W) from H0.out)
  show Calls Tryd.prog 37 #[.agg #[.string name, .slice A la ca, .slice B lb cb, .slice C lc cc, .int .i64 r, .int .i64 z, .int .i64 nr, .int .i64 nz, .int .i64 step, .slice D ld cd], .slice none 0 0] w _
  go_enter Tryd.func37, Tryd.ntmps37
  go_wp2_with (first | (go_at_call 54; refine (H0.out _ (by (with_reducible repeat first | exact Below.refl _ _ | assumption | ((first | refine Below.setCell ?_ ?_ _ | refine Below.alloc ?_ ?_ _); rotate_left; exact (by first | omega | (simp; done) | (simp; omega))) | refine Below.drew ?_ | refine Below_drewN ?_ _))).mono ?_; rintro e w1 ⟨rfl, hb⟩; have hB : Below w.heap.size w w1 := Below.trans (by (with_reducible repeat first | exact Below.refl _ _ | assumption | ((first | refine Below.setCell ?_ ?_ _ | refine Below.alloc ?_ ?_ _); rotate_left; exact (by first | omega | (simp; done) | (simp; omega))) | refine Below.drew ?_ | refine Below_drewN ?_ _)) (hb.mono (by first | omega | (simp; done) | (simp; omega))); obtain ⟨hc, hf⟩ := bcell hb; have hs := hb.size; clear hb; (try simp only [World.size_alloc, World.size_setCell] at hc hf); (try simp only [World.size_alloc, World.size_setCell] at hs); (try have hs' := Nat.lt_of_succ_le hs); (try have hs0 : w.heap.size < w1.heap.size := by omega); (try have hs1 : w.heap.size + 1 < w1.heap.size := by omega); (try have hs2 : w.heap.size + 1 + 1 < w1.heap.size := by omega); (try have hs3 : w.heap.size + 1 + 1 + 1 < w1.heap.size := by omega)) | (go_at_call 74; refine (HF.out _ _).mono ?_; rintro e w1 ⟨rfl, hb⟩; have hB : Below w.heap.size w w1 := Below.trans (by (with_reducible repeat first | exact Below.refl _ _ | assumption | ((first | refine Below.setCell ?_ ?_ _ | refine Below.alloc ?_ ?_ _); rotate_left; exact (by first | omega | (simp; done) | (simp; omega))) | refine Below.drew ?_ | refine Below_drewN ?_ _)) (hb.mono (by first | omega | (simp; done) | (simp; omega))); obtain ⟨hc, hf⟩ := bcell hb; have hs := hb.size; clear hb; (try simp only [World.size_alloc, World.size_setCell] at hc hf); (try simp only [World.size_alloc, World.size_setCell] at hs); (try have hs' := Nat.lt_of_succ_le hs); (try have hs0 : w.heap.size < w1.heap.size := by omega); (try have hs1 : w.heap.size + 1 < w1.heap.size := by omega); (try have hs2 : w.heap.size + 1 + 1 < w1.heap.size := by omega); (try have hs3 : w.heap.size + 1 + 1 + 1 < w1.heap.size := by omega)))
  go_ret
  exact ⟨rfl, by (with_reducible repeat first | exact Below.refl _ _ | assumption | ((first | refine Below.setCell ?_ ?_ _ | refine Below.alloc ?_ ?_ _); rotate_left; exact (by first | omega | (simp; done) | (simp; omega))) | refine Below.drew ?_ | refine Below_drewN ?_ _)⟩

set_option maxHeartbeats 1000000 in
theorem faulty_nil (v k t : Int) (w : World) :
    Calls Tryd.prog 38 #[.int .i64 v, .slice none 0 0, .int .i64 k, .int .i64 t] w fun e w' => e = .returned (.int .i64 v) ∧ w = w' := by
  go_enter Tryd.func38, Tryd.ntmps38
  go_wp2
  go_loop [0, 13] (fun x i => x = .int .i64 v ∧ i = .int .i64 0) (fun _ _ => 0)
  case atStart => exact ⟨rfl, rfl⟩
  case round =>
    obtain ⟨rfl, rfl⟩ := hrel
    go_wp2
    go_ret
    exact ⟨rfl, rfl⟩

set_option maxHeartbeats 2000000 in
theorem mix_zero (w : World) :
    Calls Tryd.prog 39 #[.int .u32 0, .int .u32 0, .int .u32 0] w fun e w' => e = .returned (.int .u32 0) ∧ w = w' := by
  have i0 : ∀ w, (Instr.index 129 (.agg #[.int .u32 0, .int .u32 0]) (.int .i64 0)).run Tryd.prog w = .ok (.int .u32 0) w := fun _ => by kernel_rfl
  have i1 : ∀ w, (Instr.index 129 (.agg #[.int .u32 0, .int .u32 0]) (.int .i64 1)).run Tryd.prog w = .ok (.int .u32 0) w := fun _ => by kernel_rfl
  have hx : bits BinOp.xor IntKind.u32 0 0 = 0 := by kernel_rfl
  go_enter Tryd.func39, Tryd.ntmps39
  go_wp2
  go_loop [7, 9, 14] (fun h _ i => ∃ k : Nat, k ≤ 2 ∧ i = .int .i64 k ∧ h = .int .u32 0) (fun _ _ i => 2 - (intOf i).toNat)
  case atStart => exact ⟨0, by omega, rfl, rfl⟩
  case round =>
    obtain ⟨k, hk, rfl, rfl⟩ := hrel
    obtain rfl | rfl | rfl : k = 0 ∨ k = 1 ∨ k = 2 := by omega
    · go_wp2
      go_round
      case rel => exact ⟨1, by omega, rfl, rfl⟩
      case measure => simp [intOf]
    · go_wp2
      go_round
      case rel => exact ⟨2, by omega, rfl, rfl⟩
      case measure => simp [intOf]
    · go_wp2
      go_ret
      exact ⟨rfl, rfl⟩

end Go.Proofs.YtfpjhobhmcfpnaaDoor
end
section
/- Package sense: Read of the laws' example, over this seat's translation. -/
namespace Go.Proofs.YtfpjhobhmcfpnaaDoor
set_option linter.unusedVariables false
set_option linter.unusedSimpArgs false
open Go.RowKit Go.Shelf

/-- The example's machine, and its currents. -/
def exM : MachD := ⟨⟨#[97]⟩, [], [], [⟨9, 0⟩], ⟨3, 4, 1, 1, 1⟩, [⟨⟨#[115]⟩, 1, 0, 0, 0⟩]⟩
def exC : CurD := ⟨[], [], [2]⟩
theorem exM_ok : checkC exM = 0 := by kernel_rfl
theorem exC_ok : validC exM exC = true := by kernel_rfl
theorem ex_flux : fluxW (0, 0) 0 (cellSrc ⟨3, 4, 1, 1, 1⟩ [2] 1) = 68964 := by kernel_rfl

set_option maxRecDepth 100000 in
set_option maxHeartbeats 8000000 in
theorem read_ex (x y z : Nat) (w : World) (hM : IsM w ⟨none, none, some ⟨x, 0, none⟩, some ⟨y, 0, none⟩, 0, 0, 0, 0, 1, 1, 1, 1⟩ exM) (hC : IsC w ⟨none, none, some ⟨z, 0, none⟩, 0, 0, 0, 0, 1, 1⟩ exC) :
    Calls Tryd.prog 15 #[.agg #[.string ⟨#[97]⟩, .slice none 0 0, .slice none 0 0, .slice (some ⟨x, 0, none⟩) 1 1, .int .i64 3, .int .i64 4, .int .i64 1, .int .i64 1, .int .i64 1, .slice (some ⟨y, 0, none⟩) 1 1], .agg #[.slice none 0 0, .slice none 0 0, .slice (some ⟨z, 0, none⟩) 1 1], .agg #[.int .u32 0, .slice none 0 0, .slice none 0 0], .int .i64 0] w
      fun e w' => ∃ b, e = .returned (.tuple #[.slice (some ⟨b, 0, none⟩) 1 1, .int .i64 0]) ∧ w.heap.size ≤ b ∧ b < w'.heap.size ∧ w'.cell? ⟨b, 0, none⟩ = some (.int .i64 68964) ∧ w'.cell? ⟨b, 1, none⟩ = some (.int .i64 68964) ∧ Below w.heap.size w w' := by
  have HV := Lib.hid (fun W (hb : Below w.heap.size w W) => show Calls Tryd.prog 23 #[.agg #[.string ⟨#[97]⟩, .slice none 0 0, .slice none 0 0, .slice (some ⟨x, 0, none⟩) 1 1, .int .i64 3, .int .i64 4, .int .i64 1, .int .i64 1, .int .i64 1, .slice (some ⟨y, 0, none⟩) 1 1], .agg #[.slice none 0 0, .slice none 0 0, .slice (some ⟨z, 0, none⟩) 1 1]] W (Ret (.bool true) W) from by
    have := validCurrents_any _ _ _ _ W (hM.below hb) (hC.below hb); rw [exC_ok] at this; exact this)
  have HF := Lib.hid (fun W (hb : Below w.heap.size w W) => show Calls Tryd.prog 37 #[.agg #[.string ⟨#[97]⟩, .slice none 0 0, .slice none 0 0, .slice (some ⟨x, 0, none⟩) 1 1, .int .i64 3, .int .i64 4, .int .i64 1, .int .i64 1, .int .i64 1, .slice (some ⟨y, 0, none⟩) 1 1], .slice none 0 0] W (Ret (.bool true) W) from by
    have := validFaults_nil _ _ W (hM.below hb) exM_ok; exact this)
  have HE := Lib.hid (fun W (hb : Below w.heap.size w W) => show Calls Tryd.prog 24 #[.agg #[.string ⟨#[97]⟩, .slice none 0 0, .slice none 0 0, .slice (some ⟨x, 0, none⟩) 1 1, .int .i64 3, .int .i64 4, .int .i64 1, .int .i64 1, .int .i64 1, .slice (some ⟨y, 0, none⟩) 1 1], .agg #[.slice none 0 0, .slice none 0 0, .slice (some ⟨z, 0, none⟩) 1 1], .int .i64 0] W (Ret (.tuple #[.int .i64 68964, .int .i64 0]) W) from by
    have := exact_flux ⟨#[97]⟩ none none (some ⟨x, 0, none⟩) (some ⟨y, 0, none⟩) 0 0 1 1 1 1 ⟨3, 4, 1, 1, 1⟩ [⟨9, 0⟩] [⟨⟨#[115]⟩, 1, 0, 0, 0⟩] none none (some ⟨z, 0, none⟩) 0 0 0 0 1 1 [] [] [2] 0 ⟨⟨#[115]⟩, 1, 0, 0, 0⟩ W (hM.below hb) (hC.below hb) exC_ok rfl rfl
    rw [ex_flux] at this; exact this)
  have HY : Hid (y < w.heap.size ∧ w.cell? ⟨y, 0, none⟩ = some (.string ⟨#[115]⟩) ∧ w.cell? ⟨y, 1, none⟩ = some (.int .i64 1) ∧ w.cell? ⟨y, 2, none⟩ = some (.int .i64 0) ∧ w.cell? ⟨y, 3, none⟩ = some (.int .i64 0) ∧ w.cell? ⟨y, 4, none⟩ = some (.int .i64 0)) := by
    obtain ⟨b, o, hD, hb0, hcl⟩ := hM.sensors.2 (show 0 < 1 by omega)
    dsimp only at hD
    injection hD with hD
    injection hD with h1 h2 _
    subst h1
    subst h2
    have c0 := hcl 0 ⟨⟨#[115]⟩, 1, 0, 0, 0⟩ rfl 0 _ rfl
    have c1 := hcl 0 ⟨⟨#[115]⟩, 1, 0, 0, 0⟩ rfl 1 _ rfl
    have c2 := hcl 0 ⟨⟨#[115]⟩, 1, 0, 0, 0⟩ rfl 2 _ rfl
    have c3 := hcl 0 ⟨⟨#[115]⟩, 1, 0, 0, 0⟩ rfl 3 _ rfl
    have c4 := hcl 0 ⟨⟨#[115]⟩, 1, 0, 0, 0⟩ rfl 4 _ rfl
    exact Lib.hid ⟨hb0, by simpa using c0, by simpa using c1, by simpa using c2, by simpa using c3, by simpa using c4⟩
  clear hM hC
  have wt : wthn 0 0 1000000000 = true := by decide
  have hmk : ∀ w, (Instr.makeSlice 52 (.int .i64 1) (.int .i64 1)).run Tryd.prog w = .ok (.slice (some ⟨w.heap.size, 0, none⟩) 1 1) (w.alloc (.cells #[.int .i64 0, .int .i64 0] 66)) := fun _ => by kernel_rfl
  have hmk : ∀ w, (Instr.makeSlice 52 (.int .i64 1) (.int .i64 1)).run Tryd.prog w = .ok (.slice (some ⟨w.heap.size, 0, none⟩) 1 1) (w.alloc (.cells #[.int .i64 0, .int .i64 0] 66)) := fun _ => by kernel_rfl
  have hmk : ∀ w, (Instr.makeSlice 52 (.int .i64 1) (.int .i64 1)).run Tryd.prog w = .ok (.slice (some ⟨w.heap.size, 0, none⟩) 1 1) (w.alloc (.cells #[.int .i64 0, .int .i64 0] 66)) := fun _ => by kernel_rfl
  have hmk : ∀ w, (Instr.makeSlice 52 (.int .i64 1) (.int .i64 1)).run Tryd.prog w = .ok (.slice (some ⟨w.heap.size, 0, none⟩) 1 1) (w.alloc (.cells #[.int .i64 0, .int .i64 0] 66)) := fun _ => by kernel_rfl
  have hmk : ∀ w, (Instr.makeSlice 52 (.int .i64 1) (.int .i64 1)).run Tryd.prog w = .ok (.slice (some ⟨w.heap.size, 0, none⟩) 1 1) (w.alloc (.cells #[.int .i64 0, .int .i64 0] 66)) := fun _ => by kernel_rfl
  have hmk : ∀ w, (Instr.makeSlice 52 (.int .i64 1) (.int .i64 1)).run Tryd.prog w = .ok (.slice (some ⟨w.heap.size, 0, none⟩) 1 1) (w.alloc (.cells #[.int .i64 0, .int .i64 0] 66)) := fun _ => by kernel_rfl
  have hmk : ∀ w, (Instr.makeSlice 52 (.int .i64 1) (.int .i64 1)).run Tryd.prog w = .ok (.slice (some ⟨w.heap.size, 0, none⟩) 1 1) (w.alloc (.cells #[.int .i64 0, .int .i64 0] 66)) := fun _ => by kernel_rfl
  have hmk : ∀ w, (Instr.makeSlice 52 (.int .i64 1) (.int .i64 1)).run Tryd.prog w = .ok (.slice (some ⟨w.heap.size, 0, none⟩) 1 1) (w.alloc (.cells #[.int .i64 0, .int .i64 0] 66)) := fun _ => by kernel_rfl
  go_enter Tryd.func15, Tryd.ntmps15
  go_wp2_with (first | (go_at_call 23; refine (HV.out _ (by (with_reducible repeat first | exact Below.refl _ _ | assumption | ((first | refine Below.setCell ?_ ?_ _ | refine Below.alloc ?_ ?_ _); rotate_left; exact (by first | omega | (simp; done) | (simp; omega))) | refine Below.drew ?_ | refine Below_drewN ?_ _))).mono ?_; rintro e w1 ⟨rfl, hb⟩; have hB : Below w.heap.size w w1 := Below.trans (by (with_reducible repeat first | exact Below.refl _ _ | assumption | ((first | refine Below.setCell ?_ ?_ _ | refine Below.alloc ?_ ?_ _); rotate_left; exact (by first | omega | (simp; done) | (simp; omega))) | refine Below.drew ?_ | refine Below_drewN ?_ _)) (hb.mono (by first | omega | (simp; done) | (simp; omega))); obtain ⟨hc, hf⟩ := bcell hb; have hs := hb.size; clear hb; (try simp only [World.size_alloc, World.size_setCell] at hc hf); (try simp only [World.size_alloc, World.size_setCell] at hs); (try have hs' := Nat.lt_of_succ_le hs); (try have hs0 : w.heap.size < w1.heap.size := by omega); (try have hs1 : w.heap.size + 1 < w1.heap.size := by omega); (try have hs2 : w.heap.size + 1 + 1 < w1.heap.size := by omega); (try have hs3 : w.heap.size + 1 + 1 + 1 < w1.heap.size := by omega)) | (go_at_call 37; refine (HF.out _ (by (with_reducible repeat first | exact Below.refl _ _ | assumption | ((first | refine Below.setCell ?_ ?_ _ | refine Below.alloc ?_ ?_ _); rotate_left; exact (by first | omega | (simp; done) | (simp; omega))) | refine Below.drew ?_ | refine Below_drewN ?_ _))).mono ?_; rintro e w1 ⟨rfl, hb⟩; have hB : Below w.heap.size w w1 := Below.trans (by (with_reducible repeat first | exact Below.refl _ _ | assumption | ((first | refine Below.setCell ?_ ?_ _ | refine Below.alloc ?_ ?_ _); rotate_left; exact (by first | omega | (simp; done) | (simp; omega))) | refine Below.drew ?_ | refine Below_drewN ?_ _)) (hb.mono (by first | omega | (simp; done) | (simp; omega))); obtain ⟨hc, hf⟩ := bcell hb; have hs := hb.size; clear hb; (try simp only [World.size_alloc, World.size_setCell] at hc hf); (try simp only [World.size_alloc, World.size_setCell] at hs); (try have hs' := Nat.lt_of_succ_le hs); (try have hs0 : w.heap.size < w1.heap.size := by omega); (try have hs1 : w.heap.size + 1 < w1.heap.size := by omega); (try have hs2 : w.heap.size + 1 + 1 < w1.heap.size := by omega); (try have hs3 : w.heap.size + 1 + 1 + 1 < w1.heap.size := by omega)) | (go_at_call 31; refine (swithin_any _ _ _ _).mono ?_; rintro e w1 ⟨rfl, rfl⟩))
  clear hmk
  obtain ⟨X, hX⟩ : ∃ X, w1.heap.size = X := ⟨_, rfl⟩
  have hX0 : w.heap.size + 1 + 1 < X := by omega
  rw [hX]
  have HX := Lib.hid hX
  clear hX
  go_loopw [11, 12, 13, 14, 36] (fun _ _ _ _ i wr => (i = .int .i64 0 ∧ (wr.cell? ⟨w.heap.size, 0, none⟩ = some (.string ⟨#[97]⟩) ∧ wr.cell? ⟨w.heap.size, 1, none⟩ = some (.slice none 0 0) ∧ wr.cell? ⟨w.heap.size, 2, none⟩ = some (.slice none 0 0) ∧ wr.cell? ⟨w.heap.size, 3, none⟩ = some (.slice (some ⟨x, 0, none⟩) 1 1) ∧ wr.cell? ⟨w.heap.size, 4, none⟩ = some (.int .i64 3) ∧ wr.cell? ⟨w.heap.size, 5, none⟩ = some (.int .i64 4) ∧ wr.cell? ⟨w.heap.size, 6, none⟩ = some (.int .i64 1) ∧ wr.cell? ⟨w.heap.size, 7, none⟩ = some (.int .i64 1) ∧ wr.cell? ⟨w.heap.size, 8, none⟩ = some (.int .i64 1) ∧ wr.cell? ⟨w.heap.size, 9, none⟩ = some (.slice (some ⟨y, 0, none⟩) 1 1) ∧ wr.cell? ⟨w.heap.size + 1, 0, none⟩ = some (.slice none 0 0) ∧ wr.cell? ⟨w.heap.size + 1, 1, none⟩ = some (.slice none 0 0) ∧ wr.cell? ⟨w.heap.size + 1, 2, none⟩ = some (.slice (some ⟨z, 0, none⟩) 1 1) ∧ wr.cell? ⟨w.heap.size + 1 + 1, 0, none⟩ = some (.int .u32 0) ∧ wr.cell? ⟨w.heap.size + 1 + 1, 1, none⟩ = some (.slice none 0 0)) ∧ Below w.heap.size w wr ∧ X < wr.heap.size ∧ ((wr).cell? ⟨X, 0, none⟩ = some (cur (wr) ⟨X, 0, none⟩) ∧ (wr).frozen? ⟨X, 0, none⟩ = false) ∧ ((wr).cell? ⟨X, 1, none⟩ = some (cur (wr) ⟨X, 1, none⟩) ∧ (wr).frozen? ⟨X, 1, none⟩ = false)) ∨ (i = .int .i64 1 ∧ Below w.heap.size w wr ∧ X < wr.heap.size ∧ wr.cell? ⟨X, 0, none⟩ = some (.int .i64 68964) ∧ wr.cell? ⟨X, 1, none⟩ = some (.int .i64 68964))) (fun _ _ _ _ i _ => 1 - (intOf i).toNat)
  case atStart =>
    have hX := HX.out
    subst hX
    exact .inl ⟨rfl, ⟨by go_simp, by go_simp, by go_simp, by go_simp, by go_simp, by go_simp, by go_simp, by go_simp, by go_simp, by go_simp, by go_simp, by go_simp, by go_simp, by go_simp, by go_simp⟩, by (with_reducible repeat first | exact Below.refl _ _ | assumption | ((first | refine Below.setCell ?_ ?_ _ | refine Below.alloc ?_ ?_ _); rotate_left; exact (by first | omega | (simp; done) | (simp; omega))) | refine Below.drew ?_ | refine Below_drewN ?_ _), (by first | omega | ((try simp only [World.size_alloc, World.size_setCell, size_drew, size_drewN]); omega) | (simp; done) | (simp; omega)), ⟨by simp only [cur_iff]; go_simp, by go_simp⟩, ⟨by simp only [cur_iff]; go_simp, by go_simp⟩⟩
  case round =>
    rcases hrel with ⟨rfl, ⟨m0, m1, m2, m3, m4, m5, m6, m7, m8, m9, c0, c1, c2, s0, s1⟩, hB', hXs, ⟨k0, q0⟩, ⟨k1, q1⟩⟩ | ⟨rfl, hB', hXs, v0, v1⟩
    · obtain ⟨y0, Y0, Y1, Y2, Y3, Y4⟩ := HY.out
      have z0 := (hB'.cell (p := ⟨y, 0, none⟩) y0).trans Y0
      have z1 := (hB'.cell (p := ⟨y, 1, none⟩) y0).trans Y1
      have z2 := (hB'.cell (p := ⟨y, 2, none⟩) y0).trans Y2
      have z3 := (hB'.cell (p := ⟨y, 3, none⟩) y0).trans Y3
      have z4 := (hB'.cell (p := ⟨y, 4, none⟩) y0).trans Y4
      have g0 : w.heap.size < wr.heap.size := by omega
      have g1 : w.heap.size + 1 < wr.heap.size := by omega
      have g2 : w.heap.size + 1 + 1 < wr.heap.size := by omega
      clear Y0 Y1 Y2 Y3 Y4
      go_upto_region 11 with (first | (go_at_call 24; refine (HE.out _ (by (with_reducible repeat first | exact Below.refl _ _ | assumption | ((first | refine Below.setCell ?_ ?_ _ | refine Below.alloc ?_ ?_ _); rotate_left; exact (by first | omega | (simp; done) | (simp; omega))) | refine Below.drew ?_ | refine Below_drewN ?_ _))).mono ?_; rintro e w2 ⟨rfl, hb⟩; have hB2 : Below w.heap.size w w2 := Below.trans (by (with_reducible repeat first | exact Below.refl _ _ | assumption | ((first | refine Below.setCell ?_ ?_ _ | refine Below.alloc ?_ ?_ _); rotate_left; exact (by first | omega | (simp; done) | (simp; omega))) | refine Below.drew ?_ | refine Below_drewN ?_ _)) (hb.mono (by first | omega | ((try simp only [World.size_alloc, World.size_setCell, size_drew, size_drewN]); omega) | (simp; done) | (simp; omega))); obtain ⟨hc2, hf2⟩ := bcell hb; have hs2 := hb.size; (try simp only [World.size_alloc, World.size_setCell] at hc2 hf2 hs2); have X0 : (w2.cell? ⟨X, 0, none⟩).isSome = true := (by rw [hc2 X 0 (by omega)]; go_simp); have X1 : (w2.cell? ⟨X, 1, none⟩).isSome = true := (by rw [hc2 X 1 (by omega)]; go_simp); have Q0 : w2.frozen? ⟨X, 0, none⟩ = false := (by rw [hf2 X 0 (by omega)]; go_simp); have Q1 : w2.frozen? ⟨X, 1, none⟩ = false := (by rw [hf2 X 1 (by omega)]; go_simp); have S0 : w2.cell? ⟨w.heap.size + 1 + 1, 0, none⟩ = some (.int .u32 0) := (by rw [hc2 _ _ (by omega)]; go_simp); have S1 : w2.cell? ⟨w.heap.size + 1 + 1, 1, none⟩ = some (.slice none 0 0) := (by rw [hc2 _ _ (by omega)]; go_simp); have E4 : w2.cell? ⟨wr.heap.size, 4, none⟩ = some (.int .i64 0) := (by rw [hc2 _ _ (by omega)]; go_simp); clear hc2 hf2 hb) | (go_at_call 38; refine (faulty_nil _ _ _ _).mono ?_; rintro e w3 ⟨rfl, rfl⟩))
      go_cut [13] (fun s13 wx => s13 = .int .i64 68964 ∧ Below w.heap.size w wx ∧ X < wx.heap.size ∧ wx.cell? ⟨X, 0, none⟩ = some (cur wx ⟨X, 0, none⟩) ∧ wx.cell? ⟨X, 1, none⟩ = some (cur wx ⟨X, 1, none⟩) ∧ wx.frozen? ⟨X, 0, none⟩ = false ∧ wx.frozen? ⟨X, 1, none⟩ = false ∧ wx.cell? ⟨wr.heap.size, 4, none⟩ = some (.int .i64 0))
      case first =>
        have r1 : (0 : Int).tmod 1 = 0 := by decide
        have r2 : ((1 : Int) == 0) = false := by decide
        have r3 : ¬(1 : Int) = 0 := by decide
        have r4 : IntKind.i64.wrap 0 = 0 := by decide
        have r5 : IntKind.i64.wrap 1 = 1 := by decide
        have r6 : IntKind.i64.wrap 68964 = 68964 := by decide
        have HS : Hid (∀ w' : World, Reg (w2.heap.size) (w2) w' → (Reg (w2.heap.size) (w2) w' ∧ w'.cell? ⟨w.heap.size + 1 + 1, 0, none⟩ = some (.int .u32 0) ∧ w'.cell? ⟨wr.heap.size, 4, none⟩ = some (.int .i64 0))) := (fun w' h => by (have hc := h.cells; have hs := h.some; have hf := h.frozen; refine ⟨h, ?_⟩; (try simp only [World.size_alloc, World.size_setCell, size_drew, size_drewN] at hc hs hf); first | (simp (disch := omega) only [hc, hs, hf, cur_iff]; (try go_simp); done) | (simp (disch := first | omega | (simp; done)) only [hc, hs, hf, cur_iff]; (try go_simp); done) | (simp (maxDischargeDepth := 4) [hc, hs, hf, cur_iff, go_sem]; done) | (go_simp; done) | (simp (maxDischargeDepth := 4) [hc, hs, hf, cur_iff, go_sem]; go_simp))); go_region_held3 (fun w' => Reg (w2.heap.size) (w2) w' ∧ w'.cell? ⟨w.heap.size + 1 + 1, 0, none⟩ = some (.int .u32 0) ∧ w'.cell? ⟨wr.heap.size, 4, none⟩ = some (.int .i64 0)) (exact HS.out _ (by (repeat first | with_reducible exact Reg.refl _ _ | with_reducible exact Reg.drewN2 _ _ _ _ | with_reducible exact (‹Reg _ _ _ ∧ _›).1 | (with_reducible refine Reg.setCell ?_ ?_ _; rotate_left; exact (by first | omega | ((try simp only [World.size_alloc, World.size_setCell, size_drew, size_drewN]); omega) | (simp; done) | (simp; omega))) | with_reducible refine Reg.alloc ?_ _ | with_reducible refine Reg.drew ?_ | with_reducible refine Reg.drewN ?_ _ | (with_reducible apply Reg.call; rotate_left; with_reducible assumption)))) (first | (go_at_call 39; refine (mix_zero _).mono ?_; rintro e w4 ⟨rfl, rfl⟩))
        all_goals go_wp2_with fail
        all_goals go_meet
        all_goals
          have hH := ‹Reg _ _ _ ∧ _›
          refine ⟨rfl, Reg.out hH.1 hB2 (by omega), Nat.lt_of_lt_of_le (by omega) hH.1.size, (by rw [cur_iff]; exact (hH.1.some _ _ (by omega)).trans X0), (by rw [cur_iff]; exact (hH.1.some _ _ (by omega)).trans X1), (hH.1.frozen _ _ (by omega)).trans Q0, (hH.1.frozen _ _ (by omega)).trans Q1, hH.2.2⟩
      case rest =>
        obtain ⟨rfl, hB3, hX3, x0, x1, f0, f1, e4⟩ := hcut
        go_wp2_with fail
        go_roundw
        case rel => exact .inr ⟨rfl, by (with_reducible repeat first | exact Below.refl _ _ | assumption | ((first | refine Below.setCell ?_ ?_ _ | refine Below.alloc ?_ ?_ _); rotate_left; exact (by first | omega | (simp; done) | (simp; omega))) | refine Below.drew ?_ | refine Below_drewN ?_ _), (by first | omega | ((try simp only [World.size_alloc, World.size_setCell, size_drew, size_drewN]); omega) | (simp; done) | (simp; omega)), by go_simp, by go_simp⟩
        case measure => simp [intOf]
    · go_wp2_with fail
      go_ret2
      exact ⟨X, rfl, by omega, hXs, v0, v1, hB'⟩

end Go.Proofs.YtfpjhobhmcfpnaaDoor
end
section
/- Package sense: contracts of possibleGains of a positive value, over this seat's translation. -/
namespace Go.Proofs.YtfpjhobhmcfpnaaDoor
set_option linter.unusedVariables false
set_option linter.unusedSimpArgs false
open Go.RowKit

set_option maxHeartbeats 2000000 in
theorem gains_pos (v lo hi : Int) (w : World) (hv : 0 < v) (v2 : v ≤ 1000000000000000) (l1 : -1000000000000000 ≤ lo) (l2 : lo ≤ 1000000000000000) (h1 : -1000000000000000 ≤ hi) (h2 : hi ≤ 1000000000000000) :
    Calls Tryd.prog 53 #[Pr (v, lo, hi)] w (Ret (Sp (flo (lo * 1000) v) (cei (hi * 1000) v)) w) := by
  have e1 : IntKind.i64.wrap (lo * 1000) = lo * 1000 := IntWalk.i64_in _ (by omega)
  have e2 : IntKind.i64.wrap (hi * 1000) = hi * 1000 := IntWalk.i64_in _ (by omega)
  have HD := Lib.hid (fun W => down_any (lo * 1000) v W (by omega) (by omega) (by omega) (by omega) (by omega))
  have HU := Lib.hid (fun W => up_any (hi * 1000) v W (by omega) (by omega) (by omega) (by omega) (by omega))
  go_enter Tryd.func53, Tryd.ntmps53
  go_upto_region 1 with fail
  go_cut [3, 4] (fun s3 s4 wx => s3 = .int .i64 (lo * 1000) ∧ s4 = .int .i64 (hi * 1000) ∧ wx.cell? ⟨w.heap.size, 0, none⟩ = some (.int .i64 v) ∧ w.heap.size + 1 < wx.heap.size ∧ Below w.heap.size w wx ∧ (wx).cell? ⟨w.heap.size + 1, 0, none⟩ = some (cur (wx) ⟨w.heap.size + 1, 0, none⟩) ∧ (wx).frozen? ⟨w.heap.size + 1, 0, none⟩ = false ∧ (wx).cell? ⟨w.heap.size + 1, 1, none⟩ = some (cur (wx) ⟨w.heap.size + 1, 1, none⟩) ∧ (wx).frozen? ⟨w.heap.size + 1, 1, none⟩ = false)
  case first =>
    go_quiet (fail)
    go_wp2_with fail
    go_meet
    exact ⟨rfl, rfl, (by go_simp), (by first | omega | ((try simp only [World.size_alloc, World.size_setCell, size_drew, size_drewN]); omega) | (simp; done) | (simp; omega)), (by (with_reducible repeat first | exact Below.refl _ _ | assumption | ((first | refine Below.setCell ?_ ?_ _ | refine Below.alloc ?_ ?_ _); rotate_left; exact (by first | omega | (simp; done) | (simp; omega))) | refine Below.drew ?_ | refine Below_drewN ?_ _)), (by simp only [cur_iff]; go_simp), (by go_simp), (by simp only [cur_iff]; go_simp), (by go_simp)⟩
  case rest =>
    obtain ⟨rfl, rfl, c0, hs, hB, k0, q0, k1, q1⟩ := hcut
    clear e1 e2
    generalize lo * 1000 = L at *
    generalize hi * 1000 = U at *
    go_wp2_with fail
    have HS : Hid (∀ w' : World, Reg (w.heap.size + 1) (wc) w' → (Reg (w.heap.size + 1) (wc) w' ∧ w'.cell? ⟨w.heap.size, 0, none⟩ = some (.int .i64 v))) := (fun w' h => by (have hc := h.cells; have hs := h.some; have hf := h.frozen; refine ⟨h, ?_⟩; (try simp only [World.size_alloc, World.size_setCell, size_drew, size_drewN] at hc hs hf); first | (simp (disch := omega) only [hc, hs, hf, cur_iff]; (try go_simp); done) | (simp (disch := first | omega | (simp; done)) only [hc, hs, hf, cur_iff]; (try go_simp); done) | (simp (maxDischargeDepth := 4) [hc, hs, hf, cur_iff, go_sem]; done) | (go_simp; done) | (simp (maxDischargeDepth := 4) [hc, hs, hf, cur_iff, go_sem]; go_simp))); go_region_held3 (fun w' => Reg (w.heap.size + 1) (wc) w' ∧ w'.cell? ⟨w.heap.size, 0, none⟩ = some (.int .i64 v)) (exact HS.out _ (by (repeat first | with_reducible exact Reg.refl _ _ | with_reducible exact Reg.drewN2 _ _ _ _ | with_reducible exact (‹Reg _ _ _ ∧ _›).1 | (with_reducible refine Reg.setCell ?_ ?_ _; rotate_left; exact (by first | omega | ((try simp only [World.size_alloc, World.size_setCell, size_drew, size_drewN]); omega) | (simp; done) | (simp; omega))) | with_reducible refine Reg.alloc ?_ _ | with_reducible refine Reg.drew ?_ | with_reducible refine Reg.drewN ?_ _ | (with_reducible apply Reg.call; rotate_left; with_reducible assumption)))) (first | (go_at_call 90; refine (HD.out _).mono ?_; rintro e w1 ⟨rfl, rfl⟩) | (go_at_call 89; refine (HU.out _).mono ?_; rintro e w1 ⟨rfl, rfl⟩))
    all_goals go_wp2_with fail
    all_goals exact bodyPost_ret (resF Tryd.results53 _ _ _ _ _ rfl (by (try simp only [isSome_setCell]); first | assumption | go_simp) (by (try simp only [isSome_setCell]); first | assumption | go_simp)) rfl ⟨rfl, by (with_reducible repeat first | exact Below.refl _ _ | assumption | ((first | refine Below.setCell ?_ ?_ _ | refine Below.alloc ?_ ?_ _); rotate_left; exact (by first | omega | (simp; done) | (simp; omega))) | refine Below.drew ?_ | refine Below_drewN ?_ _)⟩

end Go.Proofs.YtfpjhobhmcfpnaaDoor
end
