import Derived.Test.YtfpjhobhmcfpnabDoorJAF
import Derived.Test.YtfpjhobhmcfpnabDoorJAQ
import Derived.Test.YtfpjhobhmcfpnabDoorJAX
import Derived.Test.YtfpjhobhmcfpnabDoorJAZ
section
/- Package sense: Candidates, over this seat's translation (written by mk_can.py). -/
namespace Go.Proofs.YtfpjhobhmcfpnabDoor
set_option linter.unusedVariables false
set_option linter.unusedSimpArgs false
open Go.RowKit Go.Shelf

/-- The candidate that a cell gives. -/
def candF (M : MachD) (C : CurD) (zs : List SpanD) (k : Nat) : Option (Int × Int × Int) :=
  if (commL (clL M (bgL M C) zs (k : Int))).2.2 = true then some ((k : Int), (commL (clL M (bgL M C) zs (k : Int))).1, (commL (clL M (bgL M C) zs (k : Int))).2.1) else none
def candL (M : MachD) (C : CurD) (zs : List SpanD) : List (Int × Int × Int) := (List.range C.plasma.length).filterMap (candF M C zs)
def candZ (M : MachD) (C : CurD) (zs : List SpanD) : List (Int × Int × Int) := if explB M C zs = true then candL M C zs else []
def candE (M : MachD) (C : CurD) (zs : List SpanD) : Int := if explB M C zs = true then 0 else 1
/-- A list in new memory and an error. -/
def ListAt {α : Type} (n : Nat) (enc : α → List Value) (zs : List α) (E : Int) (w : World) (e : Ending) (w' : World) : Prop :=
  ∃ (A : Option Addr) (cap : Nat), e = .returned (.tuple #[.slice A zs.length cap, .int .i64 E]) ∧ IsT n enc w' A zs.length zs ∧ zs.length ≤ cap ∧ cap ≤ maxLen ∧ Below w.heap.size w w'
theorem infoCd : (Tryd.prog.info? 45).map (fun i => (i.zero, i.size, i.bytes)) = some (some (.agg #[.int .i64 0, .int .i64 0, .int .i64 0]), 3, 24) := by kernel_rfl
theorem filter_snoc {β : Type} (f : Nat → Option β) (j : Nat) : (List.range (j + 1)).filterMap f = (List.range j).filterMap f ++ (match f j with | some x => [x] | none => []) := by
  rw [List.range_succ, List.filterMap_append]
  cases h : f j <;> simp [h]

set_option maxRecDepth 100000 in
set_option maxHeartbeats 8000000 in
theorem candidates_any (R : MachR) (M : MachD) (Qr : CurR) (Cd : CurD) (F : Option Addr) (nf cf : Nat) (zs : List SpanD) (w : World) (hM : IsM w R M) (hC : IsC w Qr Cd) (hF : IsT 2 SpanD.cells w F nf zs) (hn : nf ≤ 1000000000000000) :
    Calls Tryd.prog 6 #[.agg (machCells R M), Qr.v, .slice F nf cf] w (ListAt 3 pairCells (candZ M Cd zs) (candE M Cd zs) w) := by
  have HE0 := Lib.hid (fun W (hb : Below w.heap.size w W) => explainable_any R M Qr Cd F nf cf zs W (hM.below hb) (hC.below hb) (hF.below hb) hn)
  unfold candZ candE
  cases he : explB M Cd zs
  · rw [he] at HE0
    rw [if_neg (by decide), if_neg (by decide)]
    clear hM hC hF he
    obtain ⟨A, B, Cl, D, la, ca, lb, cb, lc, cl, ld, cd⟩ := R
    obtain ⟨name, coils, shells, limits, ⟨r, z, nr, nz, step⟩, sensors⟩ := M
    obtain ⟨A1, B1, C1, na, qa, nb, qb, nc, qc⟩ := Qr
    dsimp only [CurR.v] at *
    have HE := Lib.hid (show ∀ W, Below w.heap.size w W → Calls Tryd.prog 10 #[.agg #[.string name, .slice A la ca, .slice B lb cb, .slice Cl lc cl, .int .i64 r, .int .i64 z, .int .i64 nr, .int .i64 nz, .int .i64 step, .slice D ld cd], .agg #[.slice A1 na qa, .slice B1 nb qb, .slice C1 nc qc], .slice F nf cf] W (Ret (.bool false) W) from HE0.out)
    clear HE0
    show Calls Tryd.prog 6 #[.agg #[.string name, .slice A la ca, .slice B lb cb, .slice Cl lc cl, .int .i64 r, .int .i64 z, .int .i64 nr, .int .i64 nz, .int .i64 step, .slice D ld cd], .agg #[.slice A1 na qa, .slice B1 nb qb, .slice C1 nc qc], .slice F nf cf] w _
    go_enter Tryd.func6, Tryd.ntmps6
    go_upto_region 1 with (fail)
    have Fm : Hid (RowL (w.heap.size) [.string name, .slice A la ca, .slice B lb cb, .slice Cl lc cl, .int .i64 r, .int .i64 z, .int .i64 nr, .int .i64 nz, .int .i64 step, .slice D ld cd] ((w.alloc (.cells #[.string name, .slice A la ca, .slice B lb cb, .slice Cl lc cl, .int .i64 r, .int .i64 z, .int .i64 nr, .int .i64 nz, .int .i64 step, .slice D ld cd] 29)).alloc (.cells #[.slice A1 na qa, .slice B1 nb qb, .slice C1 nc qc] 32))) := Lib.hid (by have h := RowL.new w #[.string name, .slice A la ca, .slice B lb cb, .slice Cl lc cl, .int .i64 r, .int .i64 z, .int .i64 nr, .int .i64 nz, .int .i64 step, .slice D ld cd] 29; (try simp only [World.size_alloc] at h); exact (h.alloc _))
    have Fc : Hid (RowL (w.heap.size + 1) [.slice A1 na qa, .slice B1 nb qb, .slice C1 nc qc] ((w.alloc (.cells #[.string name, .slice A la ca, .slice B lb cb, .slice Cl lc cl, .int .i64 r, .int .i64 z, .int .i64 nr, .int .i64 nz, .int .i64 step, .slice D ld cd] 29)).alloc (.cells #[.slice A1 na qa, .slice B1 nb qb, .slice C1 nc qc] 32))) := Lib.hid (by have h := RowL.new (w.alloc (.cells #[.string name, .slice A la ca, .slice B lb cb, .slice Cl lc cl, .int .i64 r, .int .i64 z, .int .i64 nr, .int .i64 nz, .int .i64 step, .slice D ld cd] 29)) #[.slice A1 na qa, .slice B1 nb qb, .slice C1 nc qc] 32; (try simp only [World.size_alloc] at h); exact h)
    have hB0 : Below w.heap.size w ((w.alloc (.cells #[.string name, .slice A la ca, .slice B lb cb, .slice Cl lc cl, .int .i64 r, .int .i64 z, .int .i64 nr, .int .i64 nz, .int .i64 step, .slice D ld cd] 29)).alloc (.cells #[.slice A1 na qa, .slice B1 nb qb, .slice C1 nc qc] 32)) := by (with_reducible repeat first | exact Below.refl _ _ | assumption | ((first | refine Below.setCell ?_ ?_ _ | refine Below.alloc ?_ ?_ _); rotate_left; exact (by first | omega | (simp; done) | (simp; omega))) | refine Below.drew ?_ | refine Below_drewN ?_ _)
    have sW0 : w.heap.size + 1 < ((w.alloc (.cells #[.string name, .slice A la ca, .slice B lb cb, .slice Cl lc cl, .int .i64 r, .int .i64 z, .int .i64 nr, .int .i64 nz, .int .i64 step, .slice D ld cd] 29)).alloc (.cells #[.slice A1 na qa, .slice B1 nb qb, .slice C1 nc qc] 32)).heap.size := by simp only [World.size_alloc]; omega
    obtain ⟨W0, hW0⟩ : ∃ W, ((w.alloc (.cells #[.string name, .slice A la ca, .slice B lb cb, .slice Cl lc cl, .int .i64 r, .int .i64 z, .int .i64 nr, .int .i64 nz, .int .i64 step, .slice D ld cd] 29)).alloc (.cells #[.slice A1 na qa, .slice B1 nb qb, .slice C1 nc qc] 32)) = W := ⟨_, rfl⟩
    rw [hW0] at Fm Fc hB0 sW0 ⊢
    clear hW0
    have m0 := Fm.out.cell 0 (.string name) rfl
    have m1 := Fm.out.cell 1 (.slice A la ca) rfl
    have m2 := Fm.out.cell 2 (.slice B lb cb) rfl
    have m3 := Fm.out.cell 3 (.slice Cl lc cl) rfl
    have m4 := Fm.out.cell 4 (.int .i64 r) rfl
    have m5 := Fm.out.cell 5 (.int .i64 z) rfl
    have m6 := Fm.out.cell 6 (.int .i64 nr) rfl
    have m7 := Fm.out.cell 7 (.int .i64 nz) rfl
    have m8 := Fm.out.cell 8 (.int .i64 step) rfl
    have m9 := Fm.out.cell 9 (.slice D ld cd) rfl
    have c0 := Fc.out.cell 0 (.slice A1 na qa) rfl
    have c1 := Fc.out.cell 1 (.slice B1 nb qb) rfl
    have c2 := Fc.out.cell 2 (.slice C1 nc qc) rfl
    go_wp2_with fail
    refine (HE.out _ hB0).mono ?_
    rintro e w1 ⟨rfl, hb⟩
    have hB1 := hB0.trans (hb.mono hB0.size)
    clear hb
    go_wp2_with fail
    go_ret2
    exact ⟨none, 0, rfl, ⟨rfl, fun h => absurd h (by simp)⟩, Nat.le_refl _, Nat.zero_le _, by (with_reducible repeat first | exact Below.refl _ _ | assumption | ((first | refine Below.setCell ?_ ?_ _ | refine Below.alloc ?_ ?_ _); rotate_left; exact (by first | omega | (simp; done) | (simp; omega))) | refine Below.drew ?_ | refine Below_drewN ?_ _)⟩
  · have he' := he
    unfold explB at he'
    rw [Bool.and_eq_true] at he'
    have hv := fit2_iff.1 he'.1
    have hl := hM.sensors.1
    have hp := hC.plasma.1
    have hp2 := hv.plasma.1
    have hs := sound_of hv.check
    have hg := cells_fine hs.grid
    have hld : R.ld ≤ 1000 := by have := hs.sensors.1; omega
    have hlc : Qr.lc ≤ 1000 := by omega
    have HC0 := Lib.hid (fun W (hb : Below w.heap.size w W) => claimsOf_any R M Qr Cd F nf cf zs W (hM.below hb) (hC.below hb) (hF.below hb) he)
    obtain ⟨G, hG⟩ : ∃ G : Nat → List SpanD, ∀ k : Nat, clL M (bgL M Cd) zs (k : Int) = G k := ⟨fun k => clL M (bgL M Cd) zs (k : Int), fun _ => rfl⟩
    have hGl : ∀ k, (G k).length = R.ld := fun k => by rw [← hG, clL_len, hl]
    have HGl := Lib.hid hGl
    rw [if_pos rfl, if_pos rfl]
    unfold candL
    rw [hp]
    have hcf : candF M Cd zs = fun k : Nat => if (commL (G k)).2.2 = true then some ((k : Int), (commL (G k)).1, (commL (G k)).2.1) else none := by
      funext k
      unfold candF
      rw [hG]
    rw [hcf]
    rw [show (fun k : Nat => (clL M (bgL M Cd) zs (k : Int)).flatMap SpanD.cells) = fun k => (G k).flatMap SpanD.cells from funext (fun k => by rw [hG])] at HC0
    rw [he] at HE0
    clear hM hC hF he he' hv hl hp hp2 hs hg hG hcf hGl
    obtain ⟨f, hf⟩ : ∃ f : Nat → Option (Int × Int × Int), (fun k : Nat => if (commL (G k)).2.2 = true then some ((k : Int), (commL (G k)).1, (commL (G k)).2.1) else none) = f := ⟨_, rfl⟩
    have HF : Hid (∀ k, f k = if (commL (G k)).2.2 = true then some ((k : Int), (commL (G k)).1, (commL (G k)).2.1) else none) := Lib.hid (fun k => by rw [← hf])
    rw [hf]
    clear hf
    obtain ⟨A, B, Cl, D, la, ca, lb, cb, lc, cl, ld, cd⟩ := R
    obtain ⟨name, coils, shells, limits, ⟨r, z, nr, nz, step⟩, sensors⟩ := M
    obtain ⟨A1, B1, C1, na, qa, nb, qb, nc, qc⟩ := Qr
    dsimp only [CurR.v] at *
    have HE := Lib.hid (show ∀ W, Below w.heap.size w W → Calls Tryd.prog 10 #[.agg #[.string name, .slice A la ca, .slice B lb cb, .slice Cl lc cl, .int .i64 r, .int .i64 z, .int .i64 nr, .int .i64 nz, .int .i64 step, .slice D ld cd], .agg #[.slice A1 na qa, .slice B1 nb qb, .slice C1 nc qc], .slice F nf cf] W (Ret (.bool true) W) from HE0.out)
    have HC := Lib.hid (show ∀ W, Below w.heap.size w W → Calls Tryd.prog 11 #[.agg #[.string name, .slice A la ca, .slice B lb cb, .slice Cl lc cl, .int .i64 r, .int .i64 z, .int .i64 nr, .int .i64 nz, .int .i64 step, .slice D ld cd], .agg #[.slice A1 na qa, .slice B1 nb qb, .slice C1 nc qc], .slice F nf cf] W (CofAt nc ld (fun k => (G k).flatMap SpanD.cells) W) from HC0.out)
    clear HE0 HC0
    show Calls Tryd.prog 6 #[.agg #[.string name, .slice A la ca, .slice B lb cb, .slice Cl lc cl, .int .i64 r, .int .i64 z, .int .i64 nr, .int .i64 nz, .int .i64 step, .slice D ld cd], .agg #[.slice A1 na qa, .slice B1 nb qb, .slice C1 nc qc], .slice F nf cf] w _
    go_enter Tryd.func6, Tryd.ntmps6
    go_upto_region 1 with (fail)
    have Fm : Hid (RowL (w.heap.size) [.string name, .slice A la ca, .slice B lb cb, .slice Cl lc cl, .int .i64 r, .int .i64 z, .int .i64 nr, .int .i64 nz, .int .i64 step, .slice D ld cd] ((w.alloc (.cells #[.string name, .slice A la ca, .slice B lb cb, .slice Cl lc cl, .int .i64 r, .int .i64 z, .int .i64 nr, .int .i64 nz, .int .i64 step, .slice D ld cd] 29)).alloc (.cells #[.slice A1 na qa, .slice B1 nb qb, .slice C1 nc qc] 32))) := Lib.hid (by have h := RowL.new w #[.string name, .slice A la ca, .slice B lb cb, .slice Cl lc cl, .int .i64 r, .int .i64 z, .int .i64 nr, .int .i64 nz, .int .i64 step, .slice D ld cd] 29; (try simp only [World.size_alloc] at h); exact (h.alloc _))
    have Fc : Hid (RowL (w.heap.size + 1) [.slice A1 na qa, .slice B1 nb qb, .slice C1 nc qc] ((w.alloc (.cells #[.string name, .slice A la ca, .slice B lb cb, .slice Cl lc cl, .int .i64 r, .int .i64 z, .int .i64 nr, .int .i64 nz, .int .i64 step, .slice D ld cd] 29)).alloc (.cells #[.slice A1 na qa, .slice B1 nb qb, .slice C1 nc qc] 32))) := Lib.hid (by have h := RowL.new (w.alloc (.cells #[.string name, .slice A la ca, .slice B lb cb, .slice Cl lc cl, .int .i64 r, .int .i64 z, .int .i64 nr, .int .i64 nz, .int .i64 step, .slice D ld cd] 29)) #[.slice A1 na qa, .slice B1 nb qb, .slice C1 nc qc] 32; (try simp only [World.size_alloc] at h); exact h)
    have hB0 : Below w.heap.size w ((w.alloc (.cells #[.string name, .slice A la ca, .slice B lb cb, .slice Cl lc cl, .int .i64 r, .int .i64 z, .int .i64 nr, .int .i64 nz, .int .i64 step, .slice D ld cd] 29)).alloc (.cells #[.slice A1 na qa, .slice B1 nb qb, .slice C1 nc qc] 32)) := by (with_reducible repeat first | exact Below.refl _ _ | assumption | ((first | refine Below.setCell ?_ ?_ _ | refine Below.alloc ?_ ?_ _); rotate_left; exact (by first | omega | (simp; done) | (simp; omega))) | refine Below.drew ?_ | refine Below_drewN ?_ _)
    have sW0 : w.heap.size + 1 < ((w.alloc (.cells #[.string name, .slice A la ca, .slice B lb cb, .slice Cl lc cl, .int .i64 r, .int .i64 z, .int .i64 nr, .int .i64 nz, .int .i64 step, .slice D ld cd] 29)).alloc (.cells #[.slice A1 na qa, .slice B1 nb qb, .slice C1 nc qc] 32)).heap.size := by simp only [World.size_alloc]; omega
    obtain ⟨W0, hW0⟩ : ∃ W, ((w.alloc (.cells #[.string name, .slice A la ca, .slice B lb cb, .slice Cl lc cl, .int .i64 r, .int .i64 z, .int .i64 nr, .int .i64 nz, .int .i64 step, .slice D ld cd] 29)).alloc (.cells #[.slice A1 na qa, .slice B1 nb qb, .slice C1 nc qc] 32)) = W := ⟨_, rfl⟩
    rw [hW0] at Fm Fc hB0 sW0 ⊢
    clear hW0
    have m0 := Fm.out.cell 0 (.string name) rfl
    have m1 := Fm.out.cell 1 (.slice A la ca) rfl
    have m2 := Fm.out.cell 2 (.slice B lb cb) rfl
    have m3 := Fm.out.cell 3 (.slice Cl lc cl) rfl
    have m4 := Fm.out.cell 4 (.int .i64 r) rfl
    have m5 := Fm.out.cell 5 (.int .i64 z) rfl
    have m6 := Fm.out.cell 6 (.int .i64 nr) rfl
    have m7 := Fm.out.cell 7 (.int .i64 nz) rfl
    have m8 := Fm.out.cell 8 (.int .i64 step) rfl
    have m9 := Fm.out.cell 9 (.slice D ld cd) rfl
    have c0 := Fc.out.cell 0 (.slice A1 na qa) rfl
    have c1 := Fc.out.cell 1 (.slice B1 nb qb) rfl
    have c2 := Fc.out.cell 2 (.slice C1 nc qc) rfl
    go_wp2_with fail
    refine (HE.out _ hB0).mono ?_
    rintro e w1 ⟨rfl, hb⟩
    clear m0 m1 m2 m3 m4 m5 m6 m7 m8 m9 c0 c1 c2
    have Gm := Lib.hid (Fm.out.below hb)
    clear Fm
    have Fm := Lib.hid Gm.out
    clear Gm
    have Gc := Lib.hid (Fc.out.below hb)
    clear Fc
    have Fc := Lib.hid Gc.out
    clear Gc
    have m0 := Fm.out.cell 0 (.string name) rfl
    have m1 := Fm.out.cell 1 (.slice A la ca) rfl
    have m2 := Fm.out.cell 2 (.slice B lb cb) rfl
    have m3 := Fm.out.cell 3 (.slice Cl lc cl) rfl
    have m4 := Fm.out.cell 4 (.int .i64 r) rfl
    have m5 := Fm.out.cell 5 (.int .i64 z) rfl
    have m6 := Fm.out.cell 6 (.int .i64 nr) rfl
    have m7 := Fm.out.cell 7 (.int .i64 nz) rfl
    have m8 := Fm.out.cell 8 (.int .i64 step) rfl
    have m9 := Fm.out.cell 9 (.slice D ld cd) rfl
    have c0 := Fc.out.cell 0 (.slice A1 na qa) rfl
    have c1 := Fc.out.cell 1 (.slice B1 nb qb) rfl
    have c2 := Fc.out.cell 2 (.slice C1 nc qc) rfl
    have hB1 := hB0.trans (hb.mono hB0.size)
    clear hb hB0 sW0 HE
    go_wp2_with fail
    refine (HC.out _ hB1).mono ?_
    rintro e w2 ⟨p, L, rfl, hL, hRp, hRk, hb⟩
    have hB2 := hB1.trans (hb.mono hB1.size)
    have hpl := hRp.lt
    have HP := Lib.hid hRp
    have HK := Lib.hid hRk
    have HLn := Lib.hid hL
    clear hb hRp hRk hL HC m0 m1 m2 m3 m4 m5 m6 m7 m8 m9 c0 c1 c2 Fm Fc
    go_wp2_with fail
    go_loopw [8, 23] (fun s8 i wr => ∃ (j : Nat) (A : Option Addr) (k cap : Nat), j ≤ nc ∧ i = .int .i64 j ∧ s8 = .slice A k cap ∧ Hid (k = ((List.range j).filterMap f).length ∧ k ≤ j ∧ wr.ownsRow w2.heap.size 45 3 (.slice A k cap) k (((List.range j).filterMap f).flatMap pairCells)) ∧ Below w2.heap.size w2 wr) (fun _ i _ => nc - (intOf i).toNat)
    case atStart => exact ⟨0, none, 0, 0, Nat.zero_le _, rfl, rfl, Lib.hid ⟨rfl, Nat.le_refl _, ⟨rfl, Or.inl ⟨rfl, rfl⟩⟩⟩, by (with_reducible repeat first | exact Below.refl _ _ | assumption | ((first | refine Below.setCell ?_ ?_ _ | refine Below.alloc ?_ ?_ _); rotate_left; exact (by first | omega | (simp; done) | (simp; omega))) | refine Below.drew ?_ | refine Below_drewN ?_ _)⟩
    case round =>
      obtain ⟨j, A, k, cap, hj, rfl, rfl, hR, hB⟩ := hrel
      have sz := hB.size
      have hBw := hB2.trans (hB.mono hB2.size)
      by_cases hlt : j < nc
      · obtain ⟨b, hb⟩ : ∃ b, L[j]? = some b := ⟨_, List.getElem?_eq_getElem (by rw [HLn.out]; exact hlt)⟩
        have hrow := (HK.out j b hb).below hB
        have p0 : wr.cell? ⟨p, j, none⟩ = some (.slice (some ⟨b, 0, none⟩) ld ld) := (HP.out.below hB).cell j _ (by rw [List.getElem?_map, hb]; rfl)
        have HCo := Lib.hid (common_any (some ⟨b, 0, none⟩) ld ld (G j) wr (hrow.isS (HGl.out j)) (by omega))
        have HS := Lib.hid (filter_snoc f j)
        have HFj := Lib.hid (HF.out j)
        generalize commL (G j) = Y at *
        obtain ⟨y1, y2, y3⟩ := Y
        dsimp only at HCo HFj
        have jn : ((j : Int)).toNat = j := by omega
        have j0 : (0 : Int) ≤ j := by omega
        clear hrow hb
        go_wp2_with fail
        refine HCo.out.mono ?_
        rintro e w3 ⟨rfl, hb⟩
        have hb3 := hB.trans (hb.mono hB.size)
        have hR3 := ownK_below hR.out.2.2 hb
        have HR3 := Lib.hid hR3
        have sz3 := hb.size
        clear hb hR3 p0
        cases y3
        · have HN : Hid (((List.range (j + 1)).filterMap f) = ((List.range j).filterMap f)) := Lib.hid (by rw [HS.out, HFj.out]; simp)
          clear HS HFj HCo
          go_wp2_with fail
          go_roundw
          case rel => exact ⟨j + 1, A, k, cap, by omega, by go_num, rfl, Lib.hid (by rw [HN.out]; exact ⟨hR.out.1, by have := hR.out.2.1; omega, ownK_below HR3.out (by (with_reducible repeat first | exact Below.refl _ _ | assumption | ((first | refine Below.setCell ?_ ?_ _ | refine Below.alloc ?_ ?_ _); rotate_left; exact (by first | omega | (simp; done) | (simp; omega))) | refine Below.drew ?_ | refine Below_drewN ?_ _))⟩), by (with_reducible repeat first | exact Below.refl _ _ | assumption | ((first | refine Below.setCell ?_ ?_ _ | refine Below.alloc ?_ ?_ _); rotate_left; exact (by first | omega | (simp; done) | (simp; omega))) | refine Below.drew ?_ | refine Below_drewN ?_ _)⟩
          case measure => simp [intOf]; omega
        · have HN : Hid (((List.range (j + 1)).filterMap f) = ((List.range j).filterMap f) ++ [((j : Int), y1, y2)]) := Lib.hid (by rw [HS.out, HFj.out]; simp)
          have hkj := hR.out.2.1
          clear HS HFj HCo
          go_wp2_with (at_builtin; refine list_push1 w2.heap.size w2 rfl (Operand.tmp 34) (Operand.tmp 38) 38 45 3 24 _ Tryd.underlying38 infoCd rfl (by decide) rfl (.slice A k cap) k (((List.range j).filterMap f).flatMap pairCells) rfl (ownK_below HR3.out (by (with_reducible repeat first | exact Below.refl _ _ | assumption | ((first | refine Below.setCell ?_ ?_ _ | refine Below.alloc ?_ ?_ _); rotate_left; exact (by first | omega | (simp; done) | (simp; omega))) | refine Below.drew ?_ | refine Below_drewN ?_ _))) _ #[.int .i64 j, .int .i64 y1, .int .i64 y2] rfl (blk_new (by first | omega | ((try simp only [World.size_alloc, World.size_setCell, size_drew, size_drewN]); omega) | (simp; done) | (simp; omega))) rfl (by simp [Value.oneCell']) (by omega) (by decide) (by first | omega | ((try simp only [World.size_alloc, World.size_setCell, size_drew, size_drewN]); omega) | (simp; done) | (simp; omega)) (by (with_reducible repeat first | exact Below.refl _ _ | assumption | ((first | refine Below.setCell ?_ ?_ _ | refine Below.alloc ?_ ?_ _); rotate_left; exact (by first | omega | (simp; done) | (simp; omega))) | refine Below.drew ?_ | refine Below_drewN ?_ _)) ?_; intro A2 cap2 w4 hown4 hB4 hs4; have HO := Lib.hid hown4; clear hown4)
          go_roundw
          case rel => exact ⟨j + 1, A2, k + 1, cap2, by omega, by go_num, rfl, Lib.hid (by
            rw [HN.out]
            refine ⟨by rw [List.length_append, ← hR.out.1]; rfl, by omega, ?_⟩
            rw [List.flatMap_append]
            exact HO.out), by (with_reducible repeat first | exact Below.refl _ _ | assumption | ((first | refine Below.setCell ?_ ?_ _ | refine Below.alloc ?_ ?_ _); rotate_left; exact (by first | omega | (simp; done) | (simp; omega))) | refine Below.drew ?_ | refine Below_drewN ?_ _)⟩
          case measure => simp [intOf]; omega
      · obtain rfl : j = nc := by omega
        go_wp2_with fail
        go_ret2
        obtain ⟨h1, h2, h3⟩ := hR.out
        subst h1
        obtain ⟨h4, h5, h6⟩ := own_isT (enc := pairCells) (fun x => rfl) (by decide) h3 rfl
        exact ⟨A, cap, rfl, h4, h5, h6, hBw⟩

end Go.Proofs.YtfpjhobhmcfpnabDoor
end
section
/- Narrower readings: the plain arithmetic of SenseNarrower, over this seat's translation. -/
namespace Go.Proofs.YtfpjhobhmcfpnabDoor
set_option linter.unusedVariables false
set_option linter.unusedSimpArgs false
open Go.RowKit Go.Shelf

theorem flo_mono {a b n : Int} (hn : 0 < n) (h : a ≤ b) : flo a n ≤ flo b n := by
  unfold flo
  rw [if_pos hn, if_pos hn]
  exact Int.ediv_le_ediv hn h
theorem flo_anti {a b n : Int} (hn : n < 0) (h : a ≤ b) : flo b n ≤ flo a n := by
  unfold flo
  rw [if_neg (by omega), if_neg (by omega)]
  exact Int.ediv_le_ediv (by omega) (by omega)
theorem cei_mono {a b n : Int} (hn : 0 < n) (h : a ≤ b) : cei a n ≤ cei b n := by
  unfold cei
  have := flo_mono (a := -b) (b := -a) hn (by omega)
  omega
theorem cei_anti {a b n : Int} (hn : n < 0) (h : a ≤ b) : cei b n ≤ cei a n := by
  unfold cei
  have := flo_anti (a := -b) (b := -a) hn (by omega)
  omega

/-- A span lies in another one, if it is valid at all. -/
def Sub (x y : SpanD) : Prop := vld x.lo x.hi = true → y.lo ≤ x.lo ∧ x.hi ≤ y.hi ∧ vld y.lo y.hi = true
theorem allow_sub {lo hi lo2 hi2 b n : Int} (h1 : lo ≤ lo2) (h2 : hi2 ≤ hi) (hv : vld lo hi = true) (hv2 : vld lo2 hi2 = true) : Sub ⟨(allowL lo2 hi2 b n).1, (allowL lo2 hi2 b n).2⟩ ⟨(allowL lo hi b n).1, (allowL lo hi b n).2⟩ := by
  intro h
  dsimp only at h ⊢
  unfold allowL at h ⊢
  by_cases c1 : 0 < n
  · rw [if_pos c1] at h
    simp only [if_pos c1]
    have a := cei_mono (a := lo - b) (b := lo2 - b) c1 (by omega)
    have c := flo_mono (a := hi2 - b) (b := hi - b) c1 (by omega)
    unfold possL at h ⊢
    dsimp only at h ⊢
    rw [vld_iff] at h ⊢
    omega
  · rw [if_neg c1] at h
    simp only [if_neg c1]
    by_cases c2 : n < 0
    · rw [if_pos c2] at h
      simp only [if_pos c2]
      have a := cei_anti (a := hi2 - b) (b := hi - b) c2 (by omega)
      have c := flo_anti (a := lo - b) (b := lo2 - b) c2 (by omega)
      unfold possL at h ⊢
      dsimp only at h ⊢
      rw [vld_iff] at h ⊢
      omega
    · rw [if_neg c2] at h
      simp only [if_neg c2]
      cases c3 : cont lo2 hi2 b
      · rw [c3, if_neg (by decide)] at h
        unfold possL at h
        rw [vld_iff] at h
        dsimp only at h
        omega
      · have c4 : cont lo hi b = true := by
          unfold cont at c3 ⊢
          rw [hv2, Bool.true_and, Bool.and_eq_true, decide_eq_true_iff, decide_eq_true_iff] at c3
          rw [hv, Bool.true_and, Bool.and_eq_true, decide_eq_true_iff, decide_eq_true_iff]
          omega
        rw [c3, if_pos rfl] at h
        rw [c4, if_pos rfl]
        exact ⟨Int.le_refl _, Int.le_refl _, h⟩

theorem meet_zero {a b c d : Int} (h : (meetL a b c d).2.2 = 0) : vld a b = true ∧ vld c d = true ∧ max a c ≤ min b d ∧ (meetL a b c d).1 = max a c ∧ (meetL a b c d).2.1 = min b d := by
  unfold meetL at h ⊢
  by_cases hv : (vld a b && vld c d) = true
  · rw [if_pos hv] at h ⊢
    rw [Bool.and_eq_true] at hv
    by_cases hm : max a c ≤ min b d
    · rw [if_pos hm]
      exact ⟨hv.1, hv.2, hm, rfl, rfl⟩
    · rw [if_neg hm] at h; simp at h
  · rw [if_neg hv] at h; simp at h
theorem meet_of {a b c d : Int} (h1 : vld a b = true) (h2 : vld c d = true) (h3 : max a c ≤ min b d) : meetL a b c d = (max a c, min b d, 0) := by
  unfold meetL
  rw [h1, h2, Bool.and_self, if_pos rfl, if_pos h3]

theorem comm_sub : ∀ (l l2 : List SpanD) (lo hi lo2 hi2 : Int), l.length = l2.length → (∀ (k : Nat) x y, l2[k]? = some x → l[k]? = some y → Sub x y) → lo ≤ lo2 → hi2 ≤ hi → vld lo hi = true → vld lo2 hi2 = true → (commGo lo2 hi2 l2).2.2 = true →
    (commGo lo hi l).2.2 = true ∧ (commGo lo hi l).1 ≤ (commGo lo2 hi2 l2).1 ∧ (commGo lo2 hi2 l2).2.1 ≤ (commGo lo hi l).2.1
  | [], [], lo, hi, lo2, hi2, _, _, h1, h2, _, _, _ => ⟨rfl, h1, h2⟩
  | [], _ :: _, _, _, _, _, h, _, _, _, _, _, _ => by simp at h
  | _ :: _, [], _, _, _, _, h, _, _, _, _, _, _ => by simp at h
  | y :: r, x :: r2, lo, hi, lo2, hi2, hl, hs, h1, h2, hv, hv2, hc => by
    have hxy := hs 0 x y rfl rfl
    by_cases hm : (meetL lo2 hi2 x.lo x.hi).2.2 = 0
    · obtain ⟨-, a2, a3, a4, a5⟩ := meet_zero hm
      obtain ⟨b1, b2, b3⟩ := hxy a2
      have hm2 := meet_of hv b3 (by omega)
      have e2 : commGo lo2 hi2 (x :: r2) = commGo (max lo2 x.lo) (min hi2 x.hi) r2 := by
        show (if (meetL lo2 hi2 x.lo x.hi).2.2 = 0 then _ else _) = _
        rw [if_pos hm, a4, a5]
      have e1 : commGo lo hi (y :: r) = commGo (max lo y.lo) (min hi y.hi) r := by
        show (if (meetL lo hi y.lo y.hi).2.2 = 0 then _ else _) = _
        rw [hm2, if_pos rfl]
      rw [e2] at hc ⊢
      rw [e1]
      rw [vld_iff] at hv hv2 a2 b3
      exact comm_sub r r2 _ _ _ _ (by simpa using hl) (fun k u v h3 h4 => hs (k + 1) u v (by simpa using h3) (by simpa using h4)) (by omega) (by omega) (by rw [vld_iff]; omega) (by rw [vld_iff]; omega) hc
    · have e2 : commGo lo2 hi2 (x :: r2) = (0, 0, false) := by
        show (if (meetL lo2 hi2 x.lo x.hi).2.2 = 0 then _ else _) = _
        rw [if_neg hm]
      rw [e2] at hc
      simp at hc

/-- What the law makes of a reading. -/
def narS (s : SpanD) : Option Int → SpanD
  | some b => if 0 < b ∧ b ≤ s.hi - s.lo then ⟨s.lo + b / 2, s.hi - (b - b / 2)⟩ else s
  | none => s
theorem narS_ok {s : SpanD} (b : Option Int) (h : vld s.lo s.hi = true) : vld (narS s b).lo (narS s b).hi = true ∧ s.lo ≤ (narS s b).lo ∧ (narS s b).hi ≤ s.hi := by
  unfold narS
  cases b with
  | none => exact ⟨h, Int.le_refl _, Int.le_refl _⟩
  | some b =>
    dsimp only
    by_cases hb : 0 < b ∧ b ≤ s.hi - s.lo
    · rw [if_pos hb]
      dsimp only
      rw [vld_iff] at h ⊢
      omega
    · rw [if_neg hb]
      exact ⟨h, Int.le_refl _, Int.le_refl _⟩
/-- The narrower readings. -/
def narL (zs : List SpanD) (bs : List Int) : List SpanD := (List.range zs.length).map fun k => narS (zs.getD k ⟨0, 0⟩) bs[k]?
theorem narL_len (zs : List SpanD) (bs : List Int) : (narL zs bs).length = zs.length := by unfold narL; simp
theorem narL_get {zs : List SpanD} {bs : List Int} {k : Nat} {x : SpanD} (h : zs[k]? = some x) : (narL zs bs)[k]? = some (narS x bs[k]?) := by
  have hk := (List.getElem?_eq_some_iff.1 h).1
  unfold narL
  rw [List.getElem?_map, List.getElem?_range hk]
  simp [List.getD_eq_getElem?_getD, h]
theorem nar_expl {M : MachD} {C : CurD} {zs : List SpanD} {bs : List Int} (h : explB M C zs = true) : explB M C (narL zs bs) = true := by
  unfold explB readsB at h ⊢
  rw [Bool.and_eq_true, Bool.and_eq_true, Bool.and_eq_true] at h ⊢
  rw [narL_len]
  refine ⟨h.1, h.2.1, h.2.2.1, ?_⟩
  rw [List.all_eq_true]
  intro s hs
  obtain ⟨k, hk⟩ := List.mem_iff_getElem?.1 hs
  have hkl : k < zs.length := by rw [← narL_len zs bs]; exact (List.getElem?_eq_some_iff.1 hk).1
  rw [narL_get (List.getElem?_eq_getElem hkl)] at hk
  obtain rfl := Option.some.inj hk
  exact (narS_ok _ (List.all_eq_true.1 h.2.2.2 _ (List.getElem_mem hkl))).1
theorem nar_cand {M : MachD} {C : CurD} {zs : List SpanD} {bs : List Int} (h : explB M C zs = true) {x : Int × Int × Int} (hx : x ∈ candL M C (narL zs bs)) :
    ∃ y ∈ candL M C zs, y.1 = x.1 ∧ y.2.1 ≤ x.2.1 ∧ x.2.2 ≤ y.2.2 := by
  have he := h
  unfold explB readsB at he
  rw [Bool.and_eq_true, Bool.and_eq_true, Bool.and_eq_true, decide_eq_true_iff, decide_eq_true_iff] at he
  unfold candL at hx ⊢
  obtain ⟨k, hk, hf⟩ := List.mem_filterMap.1 hx
  unfold candF at hf
  by_cases hc : (commL (clL M (bgL M C) (narL zs bs) (k : Int))).2.2 = true
  · rw [if_pos hc] at hf
    obtain rfl := Option.some.inj hf
    have hs : ∀ (i : Nat) a b, (clL M (bgL M C) (narL zs bs) (k : Int))[i]? = some a → (clL M (bgL M C) zs (k : Int))[i]? = some b → Sub a b := by
      intro i a b ha hb
      have hi : i < M.sensors.length := by rw [← clL_len M (bgL M C) zs (k : Int)]; exact (List.getElem?_eq_some_iff.1 hb).1
      rw [clL_get hi] at ha hb
      obtain rfl := Option.some.inj ha
      obtain rfl := Option.some.inj hb
      have hz : zs[i]? = some zs[i] := List.getElem?_eq_getElem (by omega)
      have hv := List.all_eq_true.1 he.2.2.2 _ (List.mem_of_getElem? hz)
      obtain ⟨n1, n2, n3⟩ := narS_ok bs[i]? hv
      unfold clF
      simp only [List.getD_eq_getElem?_getD, narL_get hz, hz, Option.getD_some]
      exact allow_sub n2 n3 hv n1
    obtain ⟨c1, c2, c3⟩ := comm_sub (clL M (bgL M C) zs (k : Int)) (clL M (bgL M C) (narL zs bs) (k : Int)) 0 1000000 0 1000000 (by rw [clL_len, clL_len]) hs (Int.le_refl _) (Int.le_refl _) (by decide) (by decide) hc
    have c1' : (commL (clL M (bgL M C) zs (k : Int))).2.2 = true := c1
    exact ⟨((k : Int), (commL (clL M (bgL M C) zs (k : Int))).1, (commL (clL M (bgL M C) zs (k : Int))).2.1), List.mem_filterMap.2 ⟨k, hk, by unfold candF; rw [if_pos c1']⟩, rfl, c2, c3⟩
  · rw [if_neg hc] at hf
    cases hf

end Go.Proofs.YtfpjhobhmcfpnabDoor
end
section
/- The laws over package sense: brief, over this seat's translation (written by mk_sv.py). -/
namespace Go.Proofs.YtfpjhobhmcfpnabDoor
set_option linter.unusedVariables false
set_option linter.unusedSimpArgs false
open Go.RowKit Go.Shelf

def briefB (la lb lc ld p q s n : Nat) : Bool := (decide (la ≤ 40) && (decide (lb ≤ 40) && (decide (lc ≤ 40) && (decide (ld ≤ 60) && (decide (p ≤ 100) && (decide (q ≤ 100) && (decide (s ≤ 200) && decide (n ≤ 100))))))))

set_option maxRecDepth 100000 in
set_option maxHeartbeats 4000000 in
theorem brief_any (name : ByteArray) (A B C D : Option Addr) (la ca lb cb lc cc ld cd : Nat) (r z nr nz step : Int) (P Q S F : Option Addr) (p pc q qc s sc n nc : Nat) (w : World) :
    Calls Tryd.prog 7 #[.agg #[.string name, .slice A la ca, .slice B lb cb, .slice C lc cc, .int .i64 r, .int .i64 z, .int .i64 nr, .int .i64 nz, .int .i64 step, .slice D ld cd], .agg #[.slice P p pc, .slice Q q qc, .slice S s sc], .slice F n nc] w (Ret (.bool (briefB la lb lc ld p q s n)) w) := by
  have HE : Hid (briefB la lb lc ld p q s n = (decide (la ≤ 40) && (decide (lb ≤ 40) && (decide (lc ≤ 40) && (decide (ld ≤ 60) && (decide (p ≤ 100) && (decide (q ≤ 100) && (decide (s ≤ 200) && decide (n ≤ 100))))))))) := Lib.hid rfl
  generalize briefB la lb lc ld p q s n = G at *
  by_cases k0 : la ≤ 40
  rotate_left
  · have HF : Hid (false = G) := Lib.hid (by rw [HE.out, decide_eq_false k0]; simp)
    clear HE
    go_enter Tryd.func7, Tryd.ntmps7
    go_wp2_with fail
    go_ret
    exact ⟨by rw [← HF.out]; rfl, by (with_reducible repeat first | exact Below.refl _ _ | assumption | ((first | refine Below.setCell ?_ ?_ _ | refine Below.alloc ?_ ?_ _); rotate_left; exact (by first | omega | (simp; done) | (simp; omega))) | refine Below.drew ?_ | refine Below_drewN ?_ _)⟩
  by_cases k1 : lb ≤ 40
  rotate_left
  · have HF : Hid (false = G) := Lib.hid (by rw [HE.out, decide_eq_false k1]; simp)
    clear HE
    go_enter Tryd.func7, Tryd.ntmps7
    go_wp2_with fail
    go_ret
    exact ⟨by rw [← HF.out]; rfl, by (with_reducible repeat first | exact Below.refl _ _ | assumption | ((first | refine Below.setCell ?_ ?_ _ | refine Below.alloc ?_ ?_ _); rotate_left; exact (by first | omega | (simp; done) | (simp; omega))) | refine Below.drew ?_ | refine Below_drewN ?_ _)⟩
  by_cases k2 : lc ≤ 40
  rotate_left
  · have HF : Hid (false = G) := Lib.hid (by rw [HE.out, decide_eq_false k2]; simp)
    clear HE
    go_enter Tryd.func7, Tryd.ntmps7
    go_wp2_with fail
    go_ret
    exact ⟨by rw [← HF.out]; rfl, by (with_reducible repeat first | exact Below.refl _ _ | assumption | ((first | refine Below.setCell ?_ ?_ _ | refine Below.alloc ?_ ?_ _); rotate_left; exact (by first | omega | (simp; done) | (simp; omega))) | refine Below.drew ?_ | refine Below_drewN ?_ _)⟩
  by_cases k3 : ld ≤ 60
  rotate_left
  · have HF : Hid (false = G) := Lib.hid (by rw [HE.out, decide_eq_false k3]; simp)
    clear HE
    go_enter Tryd.func7, Tryd.ntmps7
    go_wp2_with fail
    go_ret
    exact ⟨by rw [← HF.out]; rfl, by (with_reducible repeat first | exact Below.refl _ _ | assumption | ((first | refine Below.setCell ?_ ?_ _ | refine Below.alloc ?_ ?_ _); rotate_left; exact (by first | omega | (simp; done) | (simp; omega))) | refine Below.drew ?_ | refine Below_drewN ?_ _)⟩
  by_cases k4 : p ≤ 100
  rotate_left
  · have HF : Hid (false = G) := Lib.hid (by rw [HE.out, decide_eq_false k4]; simp)
    clear HE
    go_enter Tryd.func7, Tryd.ntmps7
    go_wp2_with fail
    go_ret
    exact ⟨by rw [← HF.out]; rfl, by (with_reducible repeat first | exact Below.refl _ _ | assumption | ((first | refine Below.setCell ?_ ?_ _ | refine Below.alloc ?_ ?_ _); rotate_left; exact (by first | omega | (simp; done) | (simp; omega))) | refine Below.drew ?_ | refine Below_drewN ?_ _)⟩
  by_cases k5 : q ≤ 100
  rotate_left
  · have HF : Hid (false = G) := Lib.hid (by rw [HE.out, decide_eq_false k5]; simp)
    clear HE
    go_enter Tryd.func7, Tryd.ntmps7
    go_wp2_with fail
    go_ret
    exact ⟨by rw [← HF.out]; rfl, by (with_reducible repeat first | exact Below.refl _ _ | assumption | ((first | refine Below.setCell ?_ ?_ _ | refine Below.alloc ?_ ?_ _); rotate_left; exact (by first | omega | (simp; done) | (simp; omega))) | refine Below.drew ?_ | refine Below_drewN ?_ _)⟩
  by_cases k6 : s ≤ 200
  rotate_left
  · have HF : Hid (false = G) := Lib.hid (by rw [HE.out, decide_eq_false k6]; simp)
    clear HE
    go_enter Tryd.func7, Tryd.ntmps7
    go_wp2_with fail
    go_ret
    exact ⟨by rw [← HF.out]; rfl, by (with_reducible repeat first | exact Below.refl _ _ | assumption | ((first | refine Below.setCell ?_ ?_ _ | refine Below.alloc ?_ ?_ _); rotate_left; exact (by first | omega | (simp; done) | (simp; omega))) | refine Below.drew ?_ | refine Below_drewN ?_ _)⟩
  by_cases k7 : n ≤ 100
  rotate_left
  · have HF : Hid (false = G) := Lib.hid (by rw [HE.out, decide_eq_false k7]; simp)
    clear HE
    have dn : decide ((n : Int) ≤ 100) = false := decide_eq_false (by omega)
    go_enter Tryd.func7, Tryd.ntmps7
    go_wp2_with fail
    go_ret
    exact ⟨by rw [← HF.out]; rfl, by (with_reducible repeat first | exact Below.refl _ _ | assumption | ((first | refine Below.setCell ?_ ?_ _ | refine Below.alloc ?_ ?_ _); rotate_left; exact (by first | omega | (simp; done) | (simp; omega))) | refine Below.drew ?_ | refine Below_drewN ?_ _)⟩
  have HF : Hid (true = G) := Lib.hid (by rw [HE.out, decide_eq_true k0, decide_eq_true k1, decide_eq_true k2, decide_eq_true k3, decide_eq_true k4, decide_eq_true k5, decide_eq_true k6, decide_eq_true k7]; rfl)
  clear HE
  have dn : decide ((n : Int) ≤ 100) = true := decide_eq_true (by omega)
  go_enter Tryd.func7, Tryd.ntmps7
  go_wp2_with fail
  go_ret
  exact ⟨by rw [← HF.out]; rfl, by (with_reducible repeat first | exact Below.refl _ _ | assumption | ((first | refine Below.setCell ?_ ?_ _ | refine Below.alloc ?_ ?_ _); rotate_left; exact (by first | omega | (simp; done) | (simp; omega))) | refine Below.drew ?_ | refine Below_drewN ?_ _)⟩
theorem brief_bd {la lb lc ld p q s n : Nat} (h : briefB la lb lc ld p q s n = true) : la ≤ 40 ∧ lb ≤ 40 ∧ lc ≤ 40 ∧ ld ≤ 60 ∧ p ≤ 100 ∧ q ≤ 100 ∧ s ≤ 200 ∧ n ≤ 100 := by
  simpa [briefB, Bool.and_eq_true, decide_eq_true_iff] using h

end Go.Proofs.YtfpjhobhmcfpnabDoor
end
